/- A row laid in, modulo a prime, and down. -/
import Derived.Test.YtikajmmeglookaaGreatDoorPc
import Derived.Deep.Cut
import Derived.Deep.CutRange
import Derived.Shelf.Bits.Mul64
import Derived.BigRegion
import Derived.Below
import Derived.Laws.OwnMore
import Derived.Deep.AppendLies
import Derived.Deep.Draws
import Derived.Lib.Hide
import Derived.Test.YtikajmmeglookaaGreatDoorProg
import Derived.WalkKit
import Derived.ProofKit
import Derived.OpenShut
import Derived.JoinedCond
import Derived.RegionTactic
import Derived.LoopTactic
import Derived.BigQuiet
import Derived.Deep.QuietTactic
import Derived.Outline
import Derived.Laws.AppendOwn
import Derived.Laws.BitsAllLaws
import Derived.Laws.Bits64
import Derived.OwnWalk
import Derived.RangeFuncNested
import Derived.RangeFuncBound
import Derived.RangeFuncCalls
import Derived.RangeFuncLeaves
import Derived.RangeFuncBox
import Derived.Shelf.Abstract
import Derived.Shelf.RegionOpen
import Derived.OwnWalkIn
import Derived.TacticsInMore
import Derived.LoopNIn
import Derived.LoopIn

namespace Go.Proofs.YtikajmmeglookaaGreatDoor
open Go.RowKit
set_option linter.unusedVariables false
set_option maxHeartbeats 400000

/-- The numbers, times 2^32, and noughts behind them. -/
def ml (f : Fd) (n : Nat) (l : List Nat) : List Nat := (List.range n).map fun j => mont f (lb l j)
theorem ml_len (f : Fd) (n : Nat) (l : List Nat) : (ml f n l).length = n := by simp [ml]
theorem ml_at (f : Fd) (n : Nat) (l : List Nat) (j : Nat) (h : j < n) : lb (ml f n l) j = mont f (lb l j) := lb_map _ _ _ h
theorem ml_lt (f : Fd) (hf : Good f) (n : Nat) (l : List Nat) : ∀ x ∈ ml f n l, x < f.p := by
  intro x hx
  obtain ⟨q, _, rfl⟩ := List.mem_map.1 hx
  exact mont_lt f hf _
structure MlI (f : Fd) (n : Nat) (l : List Nat) (j : Nat) (o : List Nat) : Prop where
  len : o.length = n
  lt : ∀ x ∈ o, x < f.p
  at_ : ∀ q, lb o q = if q < j then mont f (lb l q) else 0
theorem MlI.start (f : Fd) (hf : Good f) (n : Nat) (l : List Nat) : MlI f n l 0 (List.replicate n 0) :=
  ⟨by simp, fun x hx => by have := hf.p0; rw [List.eq_of_mem_replicate hx]; omega, fun q => by rw [lb_zeros, if_neg (by omega)]⟩
theorem MlI.step {f : Fd} (hf : Good f) {n : Nat} {l : List Nat} {j : Nat} {o : List Nat} (H : MlI f n l j o) (hj : j < n) : MlI f n l (j + 1) (o.set j (mont f (lb l j))) := by
  refine ⟨by simp [H.len], set_lt H.lt (mont_lt f hf _), fun q => ?_⟩
  rw [lb_set _ _ _ _ (by rw [H.len]; exact hj)]
  by_cases e : j = q
  · subst e; rw [if_pos rfl, if_pos (by omega)]
  · rw [if_neg e, H.at_ q]
    by_cases c : q < j
    · rw [if_pos c, if_pos (by omega)]
    · rw [if_neg c, if_neg (by omega)]
theorem lb_past (l : List Nat) (j : Nat) (h : l.length ≤ j) : lb l j = 0 := by unfold lb; rw [List.getElem?_eq_none h]; rfl
theorem mont_zero (f : Fd) : mont f 0 = 0 := by unfold mont; rw [Nat.zero_mul, Nat.zero_mod]
theorem MlI.done {f : Fd} {n : Nat} {l : List Nat} {o : List Nat} (H : MlI f n l l.length o) : o = ml f n l := by
  refine ext_lb (by rw [H.len, ml_len]) fun q hq => ?_
  rw [ml_at f n l q (by rw [← H.len]; exact hq), H.at_ q]
  by_cases c : q < l.length
  · rw [if_pos c]
  · rw [if_neg c, lb_past l q (by omega), mont_zero]

set_option maxRecDepth 100000 in
set_option maxHeartbeats 4000000 in
theorem load_calls (w : World) (f : Fd) (hf : Good f) (k n W Bn Bf Bq q : Nat) (pw : List Nat) (hn : 2 ^ k = n) (hk : k ≤ 20) (hr : Rt f.p W k) (hp : Pw f k W pw) (hq : Rd w q pw)
    (h1 : Bn < w.heap.size ∧ w.cell? ⟨Bn, 0, none⟩ = some (.int .i64 (n : Nat))) (h2 : Bx w Bf f) (h3 : Bq < w.heap.size ∧ w.cell? ⟨Bq, 0, none⟩ = some (.slice (some ⟨q, 0, none⟩) pw.length pw.length))
    (v : Value) (l : List Nat) (hu : U w v l) (hl : l.length ≤ n) :
    Calls Tryz.prog 112 #[v, .pointer (some ⟨Bn, 0, none⟩), .pointer (some ⟨Bf, 0, none⟩), .pointer (some ⟨Bq, 0, none⟩)] w fun e w' => (∃ g o, e = .returned (.slice (some ⟨g, 0, none⟩) n n) ∧ DownL f k W (ml f n l) 0 o ∧ Own w' w.heap.size (.slice (some ⟨g, 0, none⟩) n n) o) ∧ Ext w w' := by
  have p0 := hf.p0
  have p1 := hf.p1
  have hn1 : n ≤ 1048576 := by rw [← hn]; exact Nat.pow_le_pow_right (by decide) hk
  have hn0 : 0 < n := by rw [← hn]; exact Nat.two_pow_pos k
  obtain ⟨A, c, rfl, ⟨hc1, hc2⟩, hx, hrd⟩ := id hu
  have HN := Lib.hid hn
  obtain ⟨i0, hi, hz0, hz1, hz2⟩ := info_parts info32
  obtain ⟨hn3, hn4⟩ := h1
  obtain ⟨hq3, hq4⟩ := h3
  clear hn
  obtain ⟨L, hLL⟩ : ∃ L, l.length = L := ⟨_, rfl⟩
  have HL := Lib.hid hLL
  rw [hLL] at hl hc1 hc2 hu hrd ⊢
  clear hLL
  go_enter Tryz.func112, Tryz.ntmps112
  go_wp2_with (at_make; refine wpList_make_full _ rfl _ _ 22 rfl w.heap.size 23 i0 (.int .u32 0) 1 Tryz.underlying22 hi hz0 hz1 _ _ _ _ n rfl rfl (by omega) (by omega) (by rw [hz2]; omega) (by unfold maxLen; omega) (by simp) ?_; intro w1 hown hgrow)
  have ho0 := Own.zeros hown
  have hB0 : Ext w w1 := (Ext.refl w).grown hgrow (by simp) (fun _ h => by cases h)
  clear hown hgrow
  rw [List.length_replicate] at ho0
  clear hi hz0 hz1 hz2 i0 hu
  go_loopw [13] (fun t wr => ∃ (j : Nat) (o : List Nat), j ≤ L ∧ t = .int .i64 (j : Nat) ∧ Hid (MlI f n l j o) ∧ Own wr w.heap.size (.slice (some ⟨w.heap.size, 0, none⟩) n n) o ∧ Ext w wr) (fun t _ => L - (intOf t).toNat)
  case atStart => exact ⟨0, _, Nat.zero_le _, rfl, MlI.start f hf n l, ho0, hB0⟩
  case round =>
    clear ho0 hB0
    obtain ⟨j, o, hj, rfl, HO, hown, hE⟩ := hrel
    by_cases hlt : j < L
    · obtain ⟨ad, rfl, hb, hcell⟩ := hrd (by omega)
      have hc1 := (hE.cell (p := ad.add j) (by rw [addr_add_block]; exact hb)).trans (hcell j hlt)
      have HST := Lib.hid (HO.out.step hf (j := j) (by omega))
      have hx1 := lb_lt hx j
      obtain ⟨b0, b1, b2, b3, b4, b5⟩ := h2.ext hE
      generalize lb l j = x at *
      have hj0 : (0 : Int) ≤ (j : Int) := by omega
      have hj1 : (j : Int) < (L : Int) := by omega
      have hj2 : (j : Int) < (n : Int) := by omega
      have hoL := HO.out.len
      clear hrd hcell hn4 hq4 HO
      go_wp2_with (fail)
      refine (in_calls _ f hf x hx1).mono ?_
      rintro e w3 ⟨rfl, hB3⟩
      have hm := mont_lt f hf x
      replace hown := hown.ext hB3
      replace hE := hE.below hB3
      have hs := hown.set' j (mont f x)
      have hfr := Own.frozen (c := n) (by rw [hoL]; exact hown) j
      have hcl := Own.cell (c := n) (j := j) (by rw [hoL]; exact hown) (by omega)
      have hE2 : Ext w (w3.setCell ⟨w.heap.size, j, none⟩ (.int .u32 (mont f x : Nat))) := hE.setCell (by simp) _
      generalize mont f x = Y at *
      clear b0 b1 b2 b3 b4 b5 hown hE hc1 hB3
      go_wp2_with (fail)
      go_roundw
      case rel => exact ⟨j + 1, _, by omega, by go_num, HST, hs, hE2⟩
      case measure => simp [intOf]; omega
    · obtain rfl : j = L := by omega
      have HD := HO.out
      rw [← HL.out] at HD
      have hd := HD.done
      subst hd
      obtain ⟨b0, b1, b2, b3, b4, b5⟩ := h2.ext hE
      have hq5 := (hE.cell hq3).trans hq4
      have hq6 : Rd wr q pw := ((But.refl w.heap.size w).ext hE).rd hq (by have := hq.1; omega)
      have hqg : q ≠ w.heap.size := by have := hq.1; omega
      clear hrd hn4 hq4 HO hlt
      go_wp2_with (fail)
      refine (down_n _ f hf k W n (ml f n l) pw w.heap.size q n w.heap.size HN.out hk hr hp (by rw [ml_len, HN.out]) (ml_lt f hf n l) hown hq6 hqg).mono ?_
      rintro e w5 ⟨rfl, ⟨o5, hd5, ho5⟩, hB5⟩
      have hE6 := hE.trans (hB5.below (B := w.heap.size) (Nat.le_refl _) (Nat.le_trans hE.size (Nat.le_refl _)))
      have HD5 := Lib.hid hd5
      clear hd5 b0 b1 b2 b3 b4 b5 hB5 hE hq5 hq6
      go_wp2
      go_ret
      exact ⟨⟨_, o5, rfl, HD5.out, ho5⟩, hE6⟩
end Go.Proofs.YtikajmmeglookaaGreatDoor
/- Sums of products by transforms: what the rests are. -/
namespace Go.Proofs.YtikajmmeglookaaGreatDoor
open Go.RowKit
set_option linter.unusedVariables false
set_option maxHeartbeats 400000

theorem cv_sm (a b : List Nat) (i m : Nat) : ((cv a b i m : Nat) : Int) = sm i fun t => if t ≤ m then seq a t * seq b (m - t) else 0 := by
  induction i with
  | zero => rfl
  | succ i ih =>
    rw [cv, sm_succ, ← ih, Int.natCast_add]
    congr 1
    split
    · rw [Int.natCast_mul]; rfl
    · rfl
/-- All around, with room enough, is as it goes. -/
theorem around_cv (a b : List Nat) (n j : Nat) (hj : j < n) (ha : a.length ≤ n) (hab : a.length + b.length ≤ n + 1) :
    sm n (fun t => seq a t * seq b ((j + n - t) % n)) = ((cv a b a.length j : Nat) : Int) := by
  obtain ⟨r, hr⟩ : ∃ r, n = a.length + r := ⟨n - a.length, by omega⟩
  have e1 : sm n (fun t => seq a t * seq b ((j + n - t) % n)) = sm (a.length + r) (fun t => seq a t * seq b ((j + n - t) % n)) := by rw [← hr]
  rw [e1, sm_split, cv_sm]
  have e2 : sm r (fun i => seq a (a.length + i) * seq b ((j + n - (a.length + i)) % n)) = 0 := by
    rw [← sm_nought r]
    refine sm_congr fun i _ => ?_
    rw [show seq a (a.length + i) = 0 from by unfold seq; rw [lb_past a _ (by omega)]; rfl, Int.zero_mul]
  rw [e2, Int.add_zero]
  refine sm_congr fun t ht => ?_
  by_cases c : t ≤ j
  · rw [if_pos c, show j + n - t = (j - t) + n by omega, Nat.add_mod_right, Nat.mod_eq_of_lt (by omega)]
  · rw [if_neg c, Nat.mod_eq_of_lt (by omega)]
    rw [show seq b (j + n - t) = 0 from by unfold seq; rw [lb_past b _ (by omega)]; rfl, Int.mul_zero]
theorem mm_eqm (f : Fd) (x y : Nat) : Eqm (f.p : Int) ((mm f x y : Nat) : Int) ((x : Int) * (y : Int) * (f.ri : Int)) := by
  unfold mm
  refine (Eqm.nat_mod _ _).trans (Eqm.of_eq ?_)
  rw [Int.natCast_mul, Int.natCast_mul]
theorem ri_eqm (f : Fd) (hf : Good f) : Eqm (f.p : Int) ((f.ri : Int) * 4294967296) 1 := by
  have h := hf.ri
  have := eqm_of_mod (p := f.p) (a := f.ri * 4294967296) (b := 1) (by rw [h, Nat.mod_eq_of_lt hf.p0])
  rwa [Int.natCast_mul] at this
theorem rest_math {f : Fd} (F : Fld f) {k n : Nat} (hk : k ≤ 20) (hn : 2 ^ k = n) (a b : List Nat) (ha : a.length ≤ n) (hab : a.length + b.length ≤ n + 1) {x y z u r : List Nat}
    (hx : DownL f k (rt f k) (ml f n a) 0 x) (hy : DownL f k (rt f k) (ml f n b) 0 y) (hz : ∀ q, q < n → lb z q = mm f (lb x q) (lb y q)) (hu : UpL f k (bt f k) z k u)
    (hr : ∀ q, q < n → lb r q = mm f (lb u q) (sh f n % f.p)) (j : Nat) (hj : j < n) : Eqm (f.p : Int) ((lb r j : Nat) : Int) ((cv a b a.length j : Nat) : Int) := by
  have hG := F.good
  subst hn
  have hri := ri_eqm f hG
  have hw := F.rt hk
  have hv := F.bt hk
  have one : ∀ (l o : List Nat), DownL f k (rt f k) (ml f (2 ^ k) l) 0 o → ∀ q, q < 2 ^ k → Eqm (f.p : Int) (seq o q) (4294967296 * dft ((rt f k : Nat) : Int) (2 ^ k) (seq l) (rev k q)) := by
    intro l o h q hq
    refine (h.down.done q hq).trans ?_
    rw [← dft_mul]
    refine dft_eqm fun i hi => ?_
    unfold seq
    rw [ml_at f _ l i hi]
    unfold mont
    refine (Eqm.nat_mod _ _).trans (Eqm.of_eq ?_)
    rw [Int.natCast_mul, Int.mul_comm]; rfl
  have hzq : ∀ q, q < 2 ^ k → Eqm (f.p : Int) (seq z q) (4294967296 * dft ((rt f k : Nat) : Int) (2 ^ k) (fun q => sm (2 ^ k) fun t => seq a t * seq b ((q + 2 ^ k - t) % 2 ^ k)) (rev k q)) := by
    intro q hq
    have h0 : seq z q = ((mm f (lb x q) (lb y q) : Nat) : Int) := by unfold seq; rw [hz q hq]
    rw [h0]
    have h1 := (one a x hx q hq).mul (one b y hy q hq)
    have h2 := dft_around hw.1 (seq a) (seq b) (rev k q)
    refine (mm_eqm f _ _).trans ((h1.mul (Eqm.refl _ (f.ri : Int))).trans ?_)
    generalize dft ((rt f k : Nat) : Int) (2 ^ k) (seq a) (rev k q) = A at *
    generalize dft ((rt f k : Nat) : Int) (2 ^ k) (seq b) (rev k q) = B at *
    refine Eqm.trans ?_ ((Eqm.refl _ (4294967296 : Int)).mul h2)
    have h3 := hri.mul (Eqm.refl (f.p : Int) (4294967296 * (A * B)))
    rw [Int.one_mul] at h3
    refine Eqm.trans (Eqm.of_eq ?_) h3
    grind
  have huq : Eqm (f.p : Int) (seq u j) (4294967296 * (((2 ^ k : Nat) : Int) * sm (2 ^ k) fun t => seq a t * seq b ((j + 2 ^ k - t) % 2 ^ k))) := by
    refine (hu.up.done j hj).trans ?_
    refine (Eqm.sm fun t ht => (hzq t ht).mul (Eqm.refl _ _)).trans ?_
    rw [sm_rev k (fun t => 4294967296 * dft ((rt f k : Nat) : Int) (2 ^ k) (fun q => sm (2 ^ k) fun t => seq a t * seq b ((q + 2 ^ k - t) % 2 ^ k)) t * ((bt f k : Nat) : Int) ^ (j * t))]
    have e : (sm (2 ^ k) fun t => 4294967296 * dft ((rt f k : Nat) : Int) (2 ^ k) (fun q => sm (2 ^ k) fun t => seq a t * seq b ((q + 2 ^ k - t) % 2 ^ k)) t * ((bt f k : Nat) : Int) ^ (j * t)) = dft ((bt f k : Nat) : Int) (2 ^ k) (fun t => 4294967296 * dft ((rt f k : Nat) : Int) (2 ^ k) (fun q => sm (2 ^ k) fun t => seq a t * seq b ((q + 2 ^ k - t) % 2 ^ k)) t) j := by
      unfold dft
      exact sm_congr fun t _ => by rw [Nat.mul_comm j t]
    rw [e, dft_mul]
    exact (Eqm.refl _ _).mul (dft_back hw hv (F.wv k) _ j hj)
  rw [hr j hj, ← around_cv a b (2 ^ k) j hj ha hab]
  refine (mm_eqm f _ _).trans ?_
  have h1 := huq.mul (Eqm.nat_mod f.p (sh f (2 ^ k)))
  refine (h1.mul (Eqm.refl _ (f.ri : Int))).trans ?_
  generalize (sm (2 ^ k) fun t => seq a t * seq b ((j + 2 ^ k - t) % 2 ^ k)) = C at *
  have h3 := (hri.mul (F.share k)).mul (Eqm.refl (f.p : Int) C)
  rw [Int.one_mul, Int.one_mul] at h3
  refine Eqm.trans (Eqm.of_eq ?_) h3
  grind
end Go.Proofs.YtikajmmeglookaaGreatDoor
/- Sums of products modulo a prime, by transforms. -/
namespace Go.Proofs.YtikajmmeglookaaGreatDoor
open Go.RowKit
set_option linter.unusedVariables false
set_option maxHeartbeats 400000

theorem keepN {x y : World} {B Bn : Nat} {v : Value} {f : Fd} (h : (B < x.heap.size ∧ x.cell? ⟨B, 0, none⟩ = some (.int .u32 (f.p : Int)) ∧ x.cell? ⟨B, 1, none⟩ = some (.int .u32 (f.root : Int)) ∧ x.cell? ⟨B, 2, none⟩ = some (.int .u32 (f.neg : Int)) ∧ x.cell? ⟨B, 3, none⟩ = some (.int .u32 (f.square : Int)) ∧ x.cell? ⟨B, 4, none⟩ = some (.int .u32 (f.ahead : Int))) ∧ x.cell? ⟨Bn, 0, none⟩ = some v) (hB : Ext x y) :
    (B < y.heap.size ∧ y.cell? ⟨B, 0, none⟩ = some (.int .u32 (f.p : Int)) ∧ y.cell? ⟨B, 1, none⟩ = some (.int .u32 (f.root : Int)) ∧ y.cell? ⟨B, 2, none⟩ = some (.int .u32 (f.neg : Int)) ∧ y.cell? ⟨B, 3, none⟩ = some (.int .u32 (f.square : Int)) ∧ y.cell? ⟨B, 4, none⟩ = some (.int .u32 (f.ahead : Int))) ∧ y.cell? ⟨Bn, 0, none⟩ = some v :=
  ⟨Bx.ext (f := f) h.1 hB, (hB.cell (p := ⟨Bn, 0, none⟩) (World.block_lt_of_cell? x _ h.2)).trans h.2⟩

theorem keepNS {x : World} {B Bn Bq : Nat} {v u : Value} {f : Fd} (h : (B < x.heap.size ∧ x.cell? ⟨B, 0, none⟩ = some (.int .u32 (f.p : Int)) ∧ x.cell? ⟨B, 1, none⟩ = some (.int .u32 (f.root : Int)) ∧ x.cell? ⟨B, 2, none⟩ = some (.int .u32 (f.neg : Int)) ∧ x.cell? ⟨B, 3, none⟩ = some (.int .u32 (f.square : Int)) ∧ x.cell? ⟨B, 4, none⟩ = some (.int .u32 (f.ahead : Int))) ∧ x.cell? ⟨Bn, 0, none⟩ = some v) (h1 : B ≠ Bq) (h2 : Bn ≠ Bq) :
    (B < (x.setCell ⟨Bq, 0, none⟩ u).heap.size ∧ (x.setCell ⟨Bq, 0, none⟩ u).cell? ⟨B, 0, none⟩ = some (.int .u32 (f.p : Int)) ∧ (x.setCell ⟨Bq, 0, none⟩ u).cell? ⟨B, 1, none⟩ = some (.int .u32 (f.root : Int)) ∧ (x.setCell ⟨Bq, 0, none⟩ u).cell? ⟨B, 2, none⟩ = some (.int .u32 (f.neg : Int)) ∧ (x.setCell ⟨Bq, 0, none⟩ u).cell? ⟨B, 3, none⟩ = some (.int .u32 (f.square : Int)) ∧ (x.setCell ⟨Bq, 0, none⟩ u).cell? ⟨B, 4, none⟩ = some (.int .u32 (f.ahead : Int))) ∧ (x.setCell ⟨Bq, 0, none⟩ u).cell? ⟨Bn, 0, none⟩ = some v :=
  ⟨((But.refl Bq x).setCell 0 u).bx (f := f) h.1 h1, (((But.refl Bq x).setCell 0 u).cell (p := ⟨Bn, 0, none⟩) (World.block_lt_of_cell? x _ h.2) h2).trans h.2⟩
/-- A cell made ahead of a call. -/
theorem made_cell {x y : World} {v : Value} {t : TypeId} (hB : Ext (x.alloc (.cells #[v] t)) y) : y.cell? ⟨x.heap.size, 0, none⟩ = some v :=
  (hB.cell (p := ⟨x.heap.size, 0, none⟩) (by simp)).trans (by go_simp)
theorem made_free {x y : World} {v : Value} {t : TypeId} (hB : Ext (x.alloc (.cells #[v] t)) y) : y.frozen? ⟨x.heap.size, 0, none⟩ = false :=
  (hB.frozen (p := ⟨x.heap.size, 0, none⟩) (by simp)).trans (by go_simp)
theorem made_size {x y : World} {v : Value} {t : TypeId} (hB : Ext (x.alloc (.cells #[v] t)) y) : x.heap.size < y.heap.size := by
  have := hB.size; simp at this; omega
theorem drawn {x y : World} (hB : Ext x.drew y) : Ext x y := ((Ext.refl x).drew).below hB
theorem set_same {x : World} {p : Addr} {u v : Value} (h : x.cell? p = some u) : (x.setCell p v).cell? p = some v := by
  go_simp
theorem kept_cell {x y : World} {p : Addr} {v : Value} (hB : Ext x y) (h : x.cell? p = some v) : y.cell? p = some v := (hB.cell (World.block_lt_of_cell? x _ h)).trans h
theorem kept_free {x y : World} {p : Addr} {v : Value} (hB : Ext x y) (h : x.cell? p = some v) (g : x.frozen? p = false) : y.frozen? p = false := (hB.frozen (World.block_lt_of_cell? x _ h)).trans g

/-- The first m numbers put anew. -/
structure Upd (n p : Nat) (G : Nat → Nat) (m : Nat) (l o : List Nat) : Prop where
  len : o.length = n
  lt : ∀ x ∈ o, x < p
  at_ : ∀ i, lb o i = if i < m then G i else lb l i
theorem Upd.start {n p : Nat} {G : Nat → Nat} {l : List Nat} (h : l.length = n) (hl : ∀ x ∈ l, x < p) : Upd n p G 0 l l := ⟨h, hl, fun i => by rw [if_neg (by omega)]⟩
theorem Upd.step {n p : Nat} {G : Nat → Nat} {m : Nat} {l o : List Nat} (H : Upd n p G m l o) (hm : m < n) (hG : G m < p) : Upd n p G (m + 1) l (o.set m (G m)) := by
  refine ⟨by simp [H.len], set_lt H.lt hG, fun i => ?_⟩
  rw [lb_set _ _ _ _ (by rw [H.len]; exact hm)]
  by_cases e : m = i
  · subst e; rw [if_pos rfl, if_pos (by omega)]
  · rw [if_neg e, H.at_ i]
    by_cases c : i < m
    · rw [if_pos c, if_pos (by omega)]
    · rw [if_neg c, if_neg (by omega)]

set_option maxRecDepth 100000 in
set_option maxHeartbeats 4000000 in
theorem rests_calls (w : World) (f : Fd) (F : Fld f) (k n : Nat) (hn : 2 ^ k = n) (hk : k ≤ 16) (va vb : Value) (a b : List Nat) (hua : U w va a) (hub : U w vb b)
    (ha : a.length ≤ n) (hb : b.length ≤ n) (hab : a.length + b.length ≤ n + 1) :
    Calls Tryz.prog 95 #[f.V, va, vb, .int .i64 (k : Nat)] w fun e w' => (∃ u r, e = .returned u ∧ U w' u r ∧ r.length = n ∧ (∀ x ∈ r, x < f.p) ∧ ∀ j, j < n → Eqm (f.p : Int) ((lb r j : Nat) : Int) ((cv a b a.length j : Nat) : Int)) ∧ Ext w w' := by
  have hG := F.good
  have p0 := hG.p0
  have p1 := hG.p1
  have hn1 : n ≤ 65536 := by rw [← hn]; exact Nat.pow_le_pow_right (by decide) hk
  have hn0 : 0 < n := by rw [← hn]; exact Nat.two_pow_pos k
  have HN := Lib.hid hn
  have HMath := Lib.hid (fun x y z u r => @rest_math f F k n (by omega) hn a b ha hab x y z u r)
  have hw1 : IntKind.i64.wrap ((2 : Int) ^ k) = (n : Int) := by rw [IntKind.wrap_i64, ← hn]; have : ((2 ^ k : Nat) : Int) = (2 : Int) ^ k := by simp
                                                                rw [← this]; omega
  have hk0 : (0 : Int) ≤ (k : Int) := by omega
  have hk1 : decide ((k : Int) < 0) = false := by rw [decide_eq_false_iff_not]; omega
  have hmf : ∀ (fn : Fn) (first cap : Array Value) (w : World), (Instr.makeFunc fn first cap).run Tryz.prog w = .ok (.func fn first cap) w := fun _ _ _ _ => rfl
  have HX := Bx.new w f
  obtain ⟨b0, b1, b2, b3, b4, b5⟩ := id HX
  clear hn
  unfold Fd.V
  go_enter Tryz.func95, Tryz.ntmps95
  go_upto_region 2 with (fail)
  have hE0 : Ext w ((w.alloc (.cells #[.int .u32 (f.p : Int), .int .u32 (f.root : Int), .int .u32 (f.neg : Int), .int .u32 (f.square : Int), .int .u32 (f.ahead : Int)] 99)).alloc (.cells #[.int .i64 (n : Nat)] 3)) := ((Ext.refl w).alloc _).alloc _
  have hX1 := HX.ext ((Ext.refl _).alloc (.cells #[.int .i64 (n : Nat)] 3))
  have hN1 : ((w.alloc (.cells #[.int .u32 (f.p : Int), .int .u32 (f.root : Int), .int .u32 (f.neg : Int), .int .u32 (f.square : Int), .int .u32 (f.ahead : Int)] 99)).alloc (.cells #[.int .i64 (n : Nat)] 3)).cell? ⟨w.heap.size + 1, 0, none⟩ = some (.int .i64 (n : Nat)) := by
    rw [show w.heap.size + 1 = (w.alloc (.cells #[.int .u32 (f.p : Int), .int .u32 (f.root : Int), .int .u32 (f.neg : Int), .int .u32 (f.square : Int), .int .u32 (f.ahead : Int)] 99)).heap.size by simp]
    go_simp
  have hs1 : w.heap.size + 1 < ((w.alloc (.cells #[.int .u32 (f.p : Int), .int .u32 (f.root : Int), .int .u32 (f.neg : Int), .int .u32 (f.square : Int), .int .u32 (f.ahead : Int)] 99)).alloc (.cells #[.int .i64 (n : Nat)] 3)).heap.size := by simp
  clear HX b0 b1 b2 b3 b4 b5
  generalize (w.alloc (.cells #[.int .u32 (f.p : Int), .int .u32 (f.root : Int), .int .u32 (f.neg : Int), .int .u32 (f.square : Int), .int .u32 (f.ahead : Int)] 99)).alloc (.cells #[.int .i64 (n : Nat)] 3) = w2 at *
  have hPW := Lib.hid (fun W => powers_calls W f hG k n (rt f k) HN.out.symm (by omega))
  go_cut [10] from 21 to 26 (fun s10 wx => ∃ (q Bq : Nat) (pw : List Nat), s10 = .pointer (some ⟨Bq, 0, none⟩) ∧ Bq < wx.heap.size ∧ wx.cell? ⟨Bq, 0, none⟩ = some (.slice (some ⟨q, 0, none⟩) pw.length pw.length) ∧ Hid (Pw f k (rt f k) pw) ∧ Rd wx q pw ∧ Ext w2 wx)
  case first =>
    have hdd : w2.drew.heap.size = w2.heap.size := rfl
    have hS0 : (w.heap.size < w2.drew.heap.size ∧ w2.drew.cell? ⟨w.heap.size, 0, none⟩ = some (.int .u32 (f.p : Int)) ∧ w2.drew.cell? ⟨w.heap.size, 1, none⟩ = some (.int .u32 (f.root : Int)) ∧ w2.drew.cell? ⟨w.heap.size, 2, none⟩ = some (.int .u32 (f.neg : Int)) ∧ w2.drew.cell? ⟨w.heap.size, 3, none⟩ = some (.int .u32 (f.square : Int)) ∧ w2.drew.cell? ⟨w.heap.size, 4, none⟩ = some (.int .u32 (f.ahead : Int))) ∧ w2.drew.cell? ⟨w.heap.size + 1, 0, none⟩ = some (.int .i64 (n : Nat)) := ⟨hX1, hN1⟩
    go_region_held3 (fun X => (w.heap.size < X.heap.size ∧ X.cell? ⟨w.heap.size, 0, none⟩ = some (.int .u32 (f.p : Int)) ∧ X.cell? ⟨w.heap.size, 1, none⟩ = some (.int .u32 (f.root : Int)) ∧ X.cell? ⟨w.heap.size, 2, none⟩ = some (.int .u32 (f.neg : Int)) ∧ X.cell? ⟨w.heap.size, 3, none⟩ = some (.int .u32 (f.square : Int)) ∧ X.cell? ⟨w.heap.size, 4, none⟩ = some (.int .u32 (f.ahead : Int))) ∧ X.cell? ⟨w.heap.size + 1, 0, none⟩ = some (.int .i64 (n : Nat)))
      (first
        | exact hS0
        | assumption
        | exact keepN (by assumption) (by assumption)
        | exact keepN (by assumption) ((Ext.refl _).alloc _)
        | exact keepN (keepN (by assumption) ((Ext.refl _).alloc _)) (by assumption)
        | exact keepN (keepN (keepN hS0 hB3) hB4) ((Ext.refl _).alloc _)
        | exact keepNS (keepN (keepN (keepN hS0 ((Ext.refl _).alloc _)) hB3) hB4) (by omega) (by omega)
        | exact keepNS (keepN (keepN (keepN hS0 hB3) ((Ext.refl _).alloc _)) hB4) (by omega) (by omega)
        | exact keepNS (by assumption) (by omega) (by omega)
        | exact keepNS (keepN (by assumption) ((Ext.refl _).alloc _)) (by omega) (by omega))
      (first
        | (go_at_call 111; ((with_reducible refine (of_calls _ f hG k (by omega)).mono ?_); rintro e w3 ⟨rfl, hB3⟩; have hs3 := hB3.size; first | (have h0 : Ext w2.drew w3 := hB3) | (have hz3 : w3.cell? ⟨w2.heap.size, 0, none⟩ = some (.slice none 0 0) := made_cell (x := w2.drew) hB3; have hf3 : w3.frozen? ⟨w2.heap.size, 0, none⟩ = false := made_free (x := w2.drew) hB3; have hl3 : w2.heap.size < w3.heap.size := made_size (x := w2.drew) hB3)))
        | (go_at_call 110; ((with_reducible refine (hPW.out _).mono ?_); rintro e w4 ⟨⟨q, pw, rfl, hpw, hown⟩, hB4⟩; have hs4 := hB4.size; first | (have hz4 := kept_cell hB4 hz3; have hf4 := kept_free hB4 hz3 hf3) | (have hz4 : w4.cell? ⟨w3.heap.size, 0, none⟩ = some (.slice none 0 0) := made_cell (x := w3) hB4; have hf4 : w4.frozen? ⟨w3.heap.size, 0, none⟩ = false := made_free (x := w3) hB4; have hl4 : w3.heap.size < w4.heap.size := made_size (x := w3) hB4) | skip)))
    · go_wp2_with (fail)
      go_meet
      exact ⟨q, w4.heap.size, pw, rfl, by simp, by go_simp, hpw, ((But.refl w4.heap.size w4).ext ((Ext.refl w4).alloc _)).rd hown.rd (by have := hown.block; omega), ((drawn hB3).below hB4).alloc _⟩
    · go_wp2_with (fail)
      go_meet
      exact ⟨q, w3.heap.size, pw, rfl, by simp; omega, set_same hz4, hpw, ((But.refl w3.heap.size w4).setCell 0 _).rd hown.rd (by have := hown.block; simp at this; omega), ((((drawn hB3).alloc _).below hB4).setCell (p := ⟨w3.heap.size, 0, none⟩) (by exact (drawn hB3).size) _)⟩
    · go_wp2_with (fail)
      go_meet
      exact ⟨q, w2.heap.size, pw, rfl, by simp; omega, set_same hz4, hpw, ((But.refl w2.heap.size w4).setCell 0 _).rd hown.rd (by have := hown.block; omega), (((((Ext.refl w2).alloc _).below (drawn hB3)).below hB4).setCell (p := ⟨w2.heap.size, 0, none⟩) (Nat.le_refl _) _)⟩
  case rest =>
    obtain ⟨q, Bq, pw, rfl, hq1, hq2, hpw, hrd, hE2⟩ := hcut
    have hX := hX1.ext hE2
    have hNc := kept_cell hE2 hN1
    have hE := hE0.below hE2
    have hs2 := hE2.size
    replace hua := hua.below hE
    replace hub := hub.below hE
    clear hE0 hX1 hN1 hPW hE2
    have hLa := Lib.hid (fun W h1 h2 h3 h4 hu => load_calls W f hG k n (rt f k) (w.heap.size + 1) w.heap.size Bq q pw HN.out (by omega) (F.rt (by omega)) hpw.out h1 h2 h3 h4 va a hu ha)
    have hLb := Lib.hid (fun W h1 h2 h3 h4 hu => load_calls W f hG k n (rt f k) (w.heap.size + 1) w.heap.size Bq q pw HN.out (by omega) (F.rt (by omega)) hpw.out h1 h2 h3 h4 vb b hu hb)
    have hwc : w.heap.size + 1 < wc.heap.size := by omega
    go_wp2_with (fail)
    refine (hLa.out _ hrd ⟨hwc, hNc⟩ hX ⟨hq1, hq2⟩ hua).mono ?_
    rintro e w5 ⟨⟨g1, o1, rfl, hd1, hown1⟩, hB5⟩
    have hs5 := hB5.size
    have HD1 := Lib.hid hd1
    replace hrd := (But.refl wc.heap.size wc).ext hB5 |>.rd hrd (by have := hrd.1; omega)
    replace hNc := kept_cell hB5 hNc
    replace hX := hX.ext hB5
    replace hq2 := kept_cell hB5 hq2
    replace hub := hub.below hB5
    replace hE := hE.below hB5
    clear hd1 hB5 hLa hua
    go_wp2_with (fail)
    refine (hLb.out _ hrd ⟨by omega, hNc⟩ hX ⟨by omega, hq2⟩ hub).mono ?_
    rintro e w6 ⟨⟨g2, o2, rfl, hd2, hown2⟩, hB6⟩
    have hs6 := hB6.size
    have HD2 := Lib.hid hd2
    replace hNc := kept_cell hB6 hNc
    replace hX := hX.ext hB6
    replace hE := hE.below hB6
    have hbl1 := hown1.block
    have hbl2 := hown2.block
    replace hown1 := hown1.ext hB6
    clear hd2 hB6 hLb hub hrd hq2 hq1 hpw
    have hg12 : g2 ≠ g1 := by omega
    have hgf : w.heap.size ≠ g1 := by omega
    have hgn : w.heap.size + 1 ≠ g1 := by omega
    have hl1 := HD1.out.len
    have hl2 := HD2.out.len
    rw [HN.out] at hl1 hl2
    have HL1 := Lib.hid hl1
    have HL2 := Lib.hid hl2
    have HT1 := Lib.hid HD1.out.lt
    have HT2 := Lib.hid HD2.out.lt
    have hrd2 := hown2.rd
    clear hl1 hl2 hown2
    go_wp2_with (fail)
    go_loopw [36] (fun t wr => ∃ (m : Nat) (o : List Nat), m ≤ n ∧ t = .int .i64 (m : Nat) ∧ Hid (Upd n f.p (fun i => mm f (lb o1 i) (lb o2 i)) m o1 o) ∧ Own wr wc.heap.size (.slice (some ⟨g1, 0, none⟩) n n) o ∧ But g1 w6 wr) (fun t _ => n - (intOf t).toNat)
    case atStart => exact ⟨0, o1, Nat.zero_le _, rfl, Upd.start HL1.out HT1.out, hown1, But.refl _ _⟩
    case round =>
      clear hown1
      obtain ⟨m, o, hm, rfl, HO, hown, hB⟩ := hrel
      by_cases hlt : m < n
      · have hc1 := hown.rd.2 m (by rw [HO.out.len]; exact hlt)
        have hc2 := (hB.rd hrd2 hg12).2 m (by rw [HL2.out]; exact hlt)
        obtain ⟨b0, b1, b2, b3, b4, b5⟩ := hB.bx hX hgf
        have HST := Lib.hid (HO.out.step hlt (mm_lt f hG _ _))
        have he := HO.out.at_ m
        rw [if_neg (by omega)] at he
        rw [he] at hc1
        have hx1 : lb o1 m < f.p := lb_lt_of (by omega) HT1.out _
        have hy1 : lb o2 m < f.p := lb_lt_of (by omega) HT2.out _
        have hol := HO.out.len
        generalize lb o1 m = x at *
        generalize lb o2 m = y at *
        have hm0 : (0 : Int) ≤ (m : Int) := by omega
        have hm1 : (m : Int) < (n : Int) := by omega
        clear HO he
        go_wp2
        have hD0 : But g1 w6 wr.drew := hB.drew
        go_region_with (first
          | (go_at_call 115; ((with_reducible refine (mul_calls _ f hG x y (by omega) (by omega) (lt_prod (by omega) hy1)).mono ?_); rintro e w8 ⟨rfl, hB8⟩; have ho8 := hown.drew.ext hB8; have hc8 := ho8.rd.2 m (by omega); have hf8 := ho8.frozen' m; have ho9 := ho8.set' m (mm f x y); have hB9 := (hD0.ext hB8).setCell m (.int .u32 (mm f x y : Nat)))))
        all_goals
          (go_wp2
           go_roundw
           case rel => exact ⟨m + 1, _, by omega, by go_num, HST, ho9, hB9⟩
           case measure => simp [intOf]; omega)
      · obtain rfl : m = n := by omega
        have HZ1 := Lib.hid HO.out.len
        have HZ2 := Lib.hid HO.out.lt
        have HZ3 : Hid (∀ q, q < m → lb o q = mm f (lb o1 q) (lb o2 q)) := fun q hq => by rw [HO.out.at_ q, if_pos hq]
        clear HO hlt hm hrd2 HT1 HT2 HL1 HL2
        have hw6 : w.heap.size + 1 < w6.heap.size := by omega
        go_wp2_with (fail)
        have hS0 : (w.heap.size < wr.drew.heap.size ∧ wr.drew.cell? ⟨w.heap.size, 0, none⟩ = some (.int .u32 (f.p : Int)) ∧ wr.drew.cell? ⟨w.heap.size, 1, none⟩ = some (.int .u32 (f.root : Int)) ∧ wr.drew.cell? ⟨w.heap.size, 2, none⟩ = some (.int .u32 (f.neg : Int)) ∧ wr.drew.cell? ⟨w.heap.size, 3, none⟩ = some (.int .u32 (f.square : Int)) ∧ wr.drew.cell? ⟨w.heap.size, 4, none⟩ = some (.int .u32 (f.ahead : Int))) ∧ wr.drew.cell? ⟨w.heap.size + 1, 0, none⟩ = some (.int .i64 (m : Nat)) := ⟨hB.bx hX hgf, (hB.cell (p := ⟨w.heap.size + 1, 0, none⟩) hw6 hgn).trans hNc⟩
        have ho2 : Own wr.drew wc.heap.size (.slice (some ⟨g1, 0, none⟩) m m) o := hown.drew
        have hB2 : But g1 w6 wr.drew := hB.drew
        have hPW := Lib.hid (fun W => powers_calls W f hG k m (bt f k) HN.out.symm (by omega))
        clear hown hB
        go_region_held3 (fun X => (w.heap.size < X.heap.size ∧ X.cell? ⟨w.heap.size, 0, none⟩ = some (.int .u32 (f.p : Int)) ∧ X.cell? ⟨w.heap.size, 1, none⟩ = some (.int .u32 (f.root : Int)) ∧ X.cell? ⟨w.heap.size, 2, none⟩ = some (.int .u32 (f.neg : Int)) ∧ X.cell? ⟨w.heap.size, 3, none⟩ = some (.int .u32 (f.square : Int)) ∧ X.cell? ⟨w.heap.size, 4, none⟩ = some (.int .u32 (f.ahead : Int))) ∧ X.cell? ⟨w.heap.size + 1, 0, none⟩ = some (.int .i64 (m : Nat)))
          (first
            | exact hS0
            | assumption
            | exact keepN (by assumption) (by assumption))
          (first
            | (go_at_call 117; ((with_reducible refine (backward_calls _ f hG k (by omega)).mono ?_); rintro e w3 ⟨rfl, hB3⟩; have ho3 := ho2.ext hB3; have hE4 := hB2.ext hB3))
            | (go_at_call 110; ((with_reducible refine (hPW.out _).mono ?_); rintro e w4 ⟨⟨q2, pw2, rfl, hpw2, hown⟩, hB4⟩; have ho4 := ho3.ext hB4; have hE5 := hE4.ext hB4; have hblk3 := ho3.block; have hqb := hown.block))
            | (go_at_call 116; ((with_reducible refine (up_n _ f hG k (bt f k) m o pw2 g1 q2 m wc.heap.size HN.out (by omega) (F.bt (by omega)) hpw2 (by rw [HZ1.out, HN.out]) HZ2.out ho4 hown.rd (by omega)).mono ?_); rintro e w5 ⟨rfl, ⟨u5, hu5, ho5⟩, hB5⟩; have hE6 := hE5.trans hB5; have hX5 : (w.heap.size < w5.heap.size ∧ w5.cell? ⟨w.heap.size, 0, none⟩ = some (.int .u32 (f.p : Int)) ∧ w5.cell? ⟨w.heap.size, 1, none⟩ = some (.int .u32 (f.root : Int)) ∧ w5.cell? ⟨w.heap.size, 2, none⟩ = some (.int .u32 (f.neg : Int)) ∧ w5.cell? ⟨w.heap.size, 3, none⟩ = some (.int .u32 (f.square : Int)) ∧ w5.cell? ⟨w.heap.size, 4, none⟩ = some (.int .u32 (f.ahead : Int))) ∧ w5.cell? ⟨w.heap.size + 1, 0, none⟩ = some (.int .i64 (m : Nat)) := ⟨hE6.bx hX hgf, (hE6.cell (p := ⟨w.heap.size + 1, 0, none⟩) hw6 hgn).trans hNc⟩)))
        have HU := Lib.hid hu5
        clear hu5 hpw2 hown hblk3 hqb hB5 hB4 hB3 ho4 ho3 hE5 hE4 ho2 hB2 hS0
        go_wp2_with (fail)
        have hS1 : (w.heap.size < w5.drew.heap.size ∧ w5.drew.cell? ⟨w.heap.size, 0, none⟩ = some (.int .u32 (f.p : Int)) ∧ w5.drew.cell? ⟨w.heap.size, 1, none⟩ = some (.int .u32 (f.root : Int)) ∧ w5.drew.cell? ⟨w.heap.size, 2, none⟩ = some (.int .u32 (f.neg : Int)) ∧ w5.drew.cell? ⟨w.heap.size, 3, none⟩ = some (.int .u32 (f.square : Int)) ∧ w5.drew.cell? ⟨w.heap.size, 4, none⟩ = some (.int .u32 (f.ahead : Int))) ∧ w5.drew.cell? ⟨w.heap.size + 1, 0, none⟩ = some (.int .i64 (m : Nat)) := hX5
        have hOut := Lib.hid (fun W => out_calls W f hG (mont f (sh f m)) (by have := mont_lt f hG (sh f m); omega))
        go_region_held3 (fun X => (w.heap.size < X.heap.size ∧ X.cell? ⟨w.heap.size, 0, none⟩ = some (.int .u32 (f.p : Int)) ∧ X.cell? ⟨w.heap.size, 1, none⟩ = some (.int .u32 (f.root : Int)) ∧ X.cell? ⟨w.heap.size, 2, none⟩ = some (.int .u32 (f.neg : Int)) ∧ X.cell? ⟨w.heap.size, 3, none⟩ = some (.int .u32 (f.square : Int)) ∧ X.cell? ⟨w.heap.size, 4, none⟩ = some (.int .u32 (f.ahead : Int))) ∧ X.cell? ⟨w.heap.size + 1, 0, none⟩ = some (.int .i64 (m : Nat)))
          (first
            | exact hS1
            | assumption
            | exact keepN (by assumption) (by assumption))
          (first
            | (go_at_call 119; ((with_reducible refine (share_calls _ f hG m (by omega)).mono ?_); rintro e w7 ⟨rfl, hB7⟩))
            | (go_at_call 118; ((with_reducible refine (hOut.out _).mono ?_); rintro e w8 ⟨rfl, hB8⟩)))
        have HSH : Hid (mm f (mont f (sh f m)) 1 = sh f m % f.p) := mm_one f hG _
        have hsp := mm_lt f hG (mont f (sh f m)) 1
        generalize mm f (mont f (sh f m)) 1 = S at *
        have hB9 : Ext w5 w8 := (drawn hB7).below hB8
        replace ho5 := ho5.ext hB9
        replace hE6 := hE6.ext hB9
        clear hB7 hB8 hB9 hS1 hX5 hOut
        have HU1 := Lib.hid HU.out.len
        have HU2 := Lib.hid HU.out.lt
        rw [HN.out] at HU1
        go_wp2_with (fail)
        go_loopw [68] (fun t wr => ∃ (j : Nat) (r : List Nat), j ≤ m ∧ t = .int .i64 (j : Nat) ∧ Hid (Upd m f.p (fun i => mm f (lb u5 i) S) j u5 r) ∧ Own wr wc.heap.size (.slice (some ⟨g1, 0, none⟩) m m) r ∧ But g1 w6 wr) (fun t _ => m - (intOf t).toNat)
        case atStart => exact ⟨0, u5, Nat.zero_le _, rfl, Upd.start HU1.out HU2.out, ho5, hE6⟩
        case round =>
          clear ho5 hE6
          obtain ⟨j, r, hj, rfl, HO, hown, hB⟩ := hrel
          by_cases hlt : j < m
          · have hc1 := hown.rd.2 j (by rw [HO.out.len]; exact hlt)
            obtain ⟨b0, b1, b2, b3, b4, b5⟩ := hB.bx hX hgf
            have HST := Lib.hid (HO.out.step hlt (mm_lt f hG _ _))
            have he := HO.out.at_ j
            rw [if_neg (by omega)] at he
            rw [he] at hc1
            have hx1 : lb u5 j < f.p := lb_lt_of (by omega) HU2.out _
            have hol := HO.out.len
            generalize lb u5 j = x at *
            have hm0 : (0 : Int) ≤ (j : Int) := by omega
            have hm1 : (j : Int) < (m : Int) := by omega
            clear HO he
            go_wp2_with (fail)
            refine (mul_calls _ f hG x S (by omega) (by omega) (lt_prod (by omega) hsp)).mono ?_
            rintro e w9 ⟨rfl, hB9⟩
            have ho9 := hown.ext hB9
            have hc9 := ho9.rd.2 j (by omega)
            have hf9 := ho9.frozen' j
            have ho10 := ho9.set' j (mm f x S)
            have hB10 := (hB.ext hB9).setCell j (.int .u32 (mm f x S : Nat))
            generalize mm f x S = y at *
            clear b0 b1 b2 b3 b4 b5 hown hc1 hB ho9 hB9
            go_wp2_with (fail)
            go_roundw
            case rel => exact ⟨j + 1, _, by omega, by go_num, HST, ho10, hB10⟩
            case measure => simp [intOf]; omega
          · obtain rfl : j = m := by omega
            have HR : Hid (∀ q, q < j → lb r q = mm f (lb u5 q) (sh f j % f.p)) := fun q hq => by rw [HO.out.at_ q, if_pos hq, ← HSH.out]
            have HM := Lib.hid (HMath.out o1 o2 o u5 r HD1.out HD2.out HZ3.out HU.out HR.out)
            have hU : U wr (.slice (some ⟨g1, 0, none⟩) j j) r := hown.toU (fun x hx => Nat.lt_trans (HO.out.lt x hx) (by omega)) (by rw [HO.out.len]; omega)
            have HF : Hid (∃ u r, Ending.returned (.slice (some ⟨g1, 0, none⟩) j j) = .returned u ∧ U wr u r ∧ r.length = j ∧ (∀ x ∈ r, x < f.p) ∧ ∀ q, q < j → Eqm (f.p : Int) ((lb r q : Nat) : Int) ((cv a b a.length q : Nat) : Int)) := ⟨_, r, rfl, hU, HO.out.len, HO.out.lt, HM.out⟩
            have hE9 : Ext w wr := Below.trans hE ((hB.below (B := w.heap.size) (by omega) (by omega)))
            clear HO HM hU HR hown hB
            go_wp2_with (fail)
            go_ret
            exact ⟨HF.out, hE9⟩
end Go.Proofs.YtikajmmeglookaaGreatDoor
/- The number below all three primes' product that has three rests. -/
namespace Go.Proofs.YtikajmmeglookaaGreatDoor
open Go.RowKit
set_option linter.unusedVariables false
set_option maxHeartbeats 400000

/-- One step: what of N is known up to q, and modulo a prime p, gives the next digit. -/
theorem garner {f : Fd} (hf : Good f) (q N low v s : Nat) (hinv : q * f.ahead * f.ri % f.p = 1) (hlow : N % q = low) (hN : N / q < f.p)
    (hs : Eqm (f.p : Int) (s : Int) ((N : Int) - (low : Int))) (hv : v = mm f s f.ahead) : N / q = v := by
  have h1 : (N : Int) = (low : Int) + (q : Int) * ((N / q : Nat) : Int) := by
    have := Nat.mod_add_div N q
    rw [hlow] at this
    omega
  have h2 : Eqm (f.p : Int) ((q : Int) * (f.ahead : Int) * (f.ri : Int)) 1 := by
    have := eqm_of_mod (p := f.p) (a := q * f.ahead * f.ri) (b := 1) (by rw [hinv, Nat.mod_eq_of_lt hf.p0])
    rwa [Int.natCast_mul, Int.natCast_mul] at this
  have h3 : Eqm (f.p : Int) ((mm f s f.ahead : Nat) : Int) ((N / q : Nat) : Int) := by
    refine (mm_eqm f s f.ahead).trans ?_
    have h4 := (hs.mul (Eqm.refl _ (f.ahead : Int))).mul (Eqm.refl _ (f.ri : Int))
    refine h4.trans ?_
    have h5 := h2.mul (Eqm.refl (f.p : Int) ((N / q : Nat) : Int))
    rw [Int.one_mul] at h5
    refine Eqm.trans (Eqm.of_eq ?_) h5
    rw [h1]
    grind
  rw [hv]
  exact (h3.eq (mm_lt f hf _ _) hN).symm
theorem inv1 : F0.p * F1.ahead * F1.ri % F1.p = 1 := by decide +kernel
theorem inv2 : F0.p * F1.p * F2.ahead * F2.ri % F2.p = 1 := by decide +kernel
/-- s is y less x, modulo p. -/
theorem sub_eqm2 (p x y : Nat) (hp : 0 < p) (hx : x < p) : Eqm (p : Int) (((y + p - x) % p : Nat) : Int) ((y : Int) - (x : Int)) :=
  (Eqm.nat_mod _ _).trans (sub_eqm p y x (by omega))
theorem join_math (N x y z : Nat) (hx : N % F0.p = x) (hy : N % F1.p = y) (hz : N % F2.p = z) (hN : N < F0.p * F1.p * F2.p) (v low w : Nat)
    (hv : v = mm F1 ((y + F1.p - x % F1.p) % F1.p) F1.ahead) (hl : low = F0.p * v + x) (hw : w = mm F2 ((z + F2.p - low % F2.p) % F2.p) F2.ahead) :
    N = low + F0.p * F1.p * w ∧ N % (F0.p * F1.p) = low := by
  have g1 := F1_fld.good
  have g2 := F2_fld.good
  have q1 : 0 < F1.p := by decide
  have q2 : 0 < F2.p := by decide
  have hlow : N % (F0.p * F1.p) = low := by
    have h1 : N % (F0.p * F1.p) % F0.p = x := by rw [Nat.mod_mul_right_mod, hx]
    have h2 : N % (F0.p * F1.p) / F0.p = v := by
      refine garner g1 F0.p (N % (F0.p * F1.p)) x v _ inv1 h1 ?_ ?_ hv
      · exact Nat.div_lt_of_lt_mul (Nat.mod_lt _ (by decide))
      · refine (sub_eqm2 F1.p (x % F1.p) y q1 (Nat.mod_lt _ q1)).trans (Eqm.sub ?_ (Eqm.nat_mod _ _))
        rw [← hy]
        refine (Eqm.nat_mod _ _).trans ?_
        have : Eqm (F1.p : Int) ((N % (F0.p * F1.p) : Nat) : Int) (N : Int) := by
          refine (Eqm.nat_mod _ _).symm.trans ?_
          rw [Nat.mod_mul_left_mod]
          exact Eqm.nat_mod _ _
        exact this.symm
    have h3 := Nat.mod_add_div (N % (F0.p * F1.p)) F0.p
    rw [h1, h2] at h3
    omega
  have h4 : N / (F0.p * F1.p) = w := by
    refine garner g2 (F0.p * F1.p) N low w _ inv2 hlow ?_ ?_ hw
    · exact Nat.div_lt_of_lt_mul hN
    · refine (sub_eqm2 F2.p (low % F2.p) z q2 (Nat.mod_lt _ q2)).trans (Eqm.sub ?_ (Eqm.nat_mod _ _))
      rw [← hz]
      exact Eqm.nat_mod _ _
  have h5 := Nat.mod_add_div N (F0.p * F1.p)
  rw [hlow, h4] at h5
  exact ⟨h5.symm, hlow⟩
end Go.Proofs.YtikajmmeglookaaGreatDoor
/- join: the number that has three rests, in three limbs. -/
namespace Go.Proofs.YtikajmmeglookaaGreatDoor
open Go.RowKit
set_option linter.unusedVariables false
set_option maxHeartbeats 400000

set_option maxHeartbeats 1000000 in
theorem mul64_calls (x y : Nat) (hx : x < 18446744073709551616) (hy : y < 18446744073709551616) (w : World) :
    Calls Tryz.prog 87 #[.int .u64 x, .int .u64 y] w fun e w' => e = .returned (.tuple #[.int .u64 ((x * y / 18446744073709551616 : Nat) : Int), .int .u64 ((x * y % 18446744073709551616 : Nat) : Int)]) ∧ w' = w := by
  obtain ⟨bd, bt, bw, hhi⟩ := Lib.mul64_hi x y hx hy
  have ba := Lib.half_mul_le (a := x / 4294967296) (b := y / 4294967296) (by omega) (by omega)
  have bb := Lib.half_mul_le (a := x / 4294967296) (b := y % 4294967296) (by omega) (by omega)
  have bc := Lib.half_mul_le (a := x % 4294967296) (b := y / 4294967296) (by omega) (by omega)
  have ba' : x / 4294967296 * (y / 4294967296) < 18446744073709551616 := by omega
  have bb' : x / 4294967296 * (y % 4294967296) < 18446744073709551616 := by omega
  have bc' : x % 4294967296 * (y / 4294967296) < 18446744073709551616 := by omega
  have bh1 : x / 4294967296 * (y / 4294967296) + (x / 4294967296 * (y % 4294967296) + x % 4294967296 * (y % 4294967296) / 4294967296) / 4294967296 < 18446744073709551616 := by omega
  have bh : x / 4294967296 * (y / 4294967296) + (x / 4294967296 * (y % 4294967296) + x % 4294967296 * (y % 4294967296) / 4294967296) / 4294967296 + ((x / 4294967296 * (y % 4294967296) + x % 4294967296 * (y % 4294967296) / 4294967296) % 4294967296 + x % 4294967296 * (y / 4294967296)) / 4294967296 < 18446744073709551616 := by omega
  go_enter Tryz.func87, Tryz.ntmps87
  go_wp2
  simp only [Mul64.maskN x hx, Mul64.maskN y hy, Mul64.divN, Mul64.mulN, Mul64.addN, Mul64.wrapN _ bd, Mul64.wrapN _ bb', Mul64.wrapN _ bt, Mul64.maskN _ bt, Mul64.wrapN _ bc', Mul64.wrapN _ bw, Mul64.wrapN _ ba', Mul64.wrapN _ bh1, Mul64.wrapN _ bh, Mul64.wrapM (x * y)]
  rw [hhi]
  go_ret2
  exact ⟨rfl, rfl⟩

theorem three (w : World) (B : Nat) (hB : w.heap.size = B) (f g h : Fd) :
    Bx ((((w.alloc (.cells #[.int .u32 (f.p : Int), .int .u32 (f.root : Int), .int .u32 (f.neg : Int), .int .u32 (f.square : Int), .int .u32 (f.ahead : Int)] 99)).alloc (.cells #[.int .u32 (g.p : Int), .int .u32 (g.root : Int), .int .u32 (g.neg : Int), .int .u32 (g.square : Int), .int .u32 (g.ahead : Int)] 99)).alloc (.cells #[.int .u32 (h.p : Int), .int .u32 (h.root : Int), .int .u32 (h.neg : Int), .int .u32 (h.square : Int), .int .u32 (h.ahead : Int)] 99)).drew) B f ∧ Bx ((((w.alloc (.cells #[.int .u32 (f.p : Int), .int .u32 (f.root : Int), .int .u32 (f.neg : Int), .int .u32 (f.square : Int), .int .u32 (f.ahead : Int)] 99)).alloc (.cells #[.int .u32 (g.p : Int), .int .u32 (g.root : Int), .int .u32 (g.neg : Int), .int .u32 (g.square : Int), .int .u32 (g.ahead : Int)] 99)).alloc (.cells #[.int .u32 (h.p : Int), .int .u32 (h.root : Int), .int .u32 (h.neg : Int), .int .u32 (h.square : Int), .int .u32 (h.ahead : Int)] 99)).drew) (B + 1) g ∧
    Bx ((((w.alloc (.cells #[.int .u32 (f.p : Int), .int .u32 (f.root : Int), .int .u32 (f.neg : Int), .int .u32 (f.square : Int), .int .u32 (f.ahead : Int)] 99)).alloc (.cells #[.int .u32 (g.p : Int), .int .u32 (g.root : Int), .int .u32 (g.neg : Int), .int .u32 (g.square : Int), .int .u32 (g.ahead : Int)] 99)).alloc (.cells #[.int .u32 (h.p : Int), .int .u32 (h.root : Int), .int .u32 (h.neg : Int), .int .u32 (h.square : Int), .int .u32 (h.ahead : Int)] 99)).drew) (B + 1 + 1) h ∧ Ext w ((((w.alloc (.cells #[.int .u32 (f.p : Int), .int .u32 (f.root : Int), .int .u32 (f.neg : Int), .int .u32 (f.square : Int), .int .u32 (f.ahead : Int)] 99)).alloc (.cells #[.int .u32 (g.p : Int), .int .u32 (g.root : Int), .int .u32 (g.neg : Int), .int .u32 (g.square : Int), .int .u32 (g.ahead : Int)] 99)).alloc (.cells #[.int .u32 (h.p : Int), .int .u32 (h.root : Int), .int .u32 (h.neg : Int), .int .u32 (h.square : Int), .int .u32 (h.ahead : Int)] 99)).drew) := by
  subst hB
  have h1 := Bx.new w f
  have h2 := Bx.new (w.alloc (.cells #[.int .u32 (f.p : Int), .int .u32 (f.root : Int), .int .u32 (f.neg : Int), .int .u32 (f.square : Int), .int .u32 (f.ahead : Int)] 99)) g
  have h3 := Bx.new ((w.alloc (.cells #[.int .u32 (f.p : Int), .int .u32 (f.root : Int), .int .u32 (f.neg : Int), .int .u32 (f.square : Int), .int .u32 (f.ahead : Int)] 99)).alloc (.cells #[.int .u32 (g.p : Int), .int .u32 (g.root : Int), .int .u32 (g.neg : Int), .int .u32 (g.square : Int), .int .u32 (g.ahead : Int)] 99)) h
  have s1 : (w.alloc (.cells #[.int .u32 (f.p : Int), .int .u32 (f.root : Int), .int .u32 (f.neg : Int), .int .u32 (f.square : Int), .int .u32 (f.ahead : Int)] 99)).heap.size = w.heap.size + 1 := by simp
  have s2 : ((w.alloc (.cells #[.int .u32 (f.p : Int), .int .u32 (f.root : Int), .int .u32 (f.neg : Int), .int .u32 (f.square : Int), .int .u32 (f.ahead : Int)] 99)).alloc (.cells #[.int .u32 (g.p : Int), .int .u32 (g.root : Int), .int .u32 (g.neg : Int), .int .u32 (g.square : Int), .int .u32 (g.ahead : Int)] 99)).heap.size = w.heap.size + 1 + 1 := by simp
  rw [s1] at h2
  rw [s2] at h3
  exact ⟨(h1.ext (((Ext.refl _).alloc _).alloc _)).ext ((Ext.refl _).drew), (h2.ext ((Ext.refl _).alloc _)).ext ((Ext.refl _).drew), h3.ext ((Ext.refl _).drew), (((((Ext.refl w).alloc _).alloc _).alloc _).drew)⟩

set_option maxRecDepth 100000 in
set_option maxHeartbeats 4000000 in
theorem join_calls (w : World) (hg : Gl w) (N x y z : Nat) (hx : N % F0.p = x) (hy : N % F1.p = y) (hz : N % F2.p = z) (hN : N < F0.p * F1.p * F2.p) :
    Calls Tryz.prog 96 #[.int .u32 (x : Nat), .int .u32 (y : Nat), .int .u32 (z : Nat)] w fun e w' => e = .returned (.agg #[.int .u32 (N % 4294967296 : Nat), .int .u32 (N / 4294967296 % 4294967296 : Nat), .int .u32 (N / 18446744073709551616 % 4294967296 : Nat)]) ∧ Ext w w' := by
  obtain ⟨hw0, ⟨a0, a1, a2, a3, a4⟩, ⟨b0, b1, b2, b3, b4⟩, ⟨c0, c1, c2, c3, c4⟩⟩ := hg
  have HJ := Lib.hid (join_math N x y z hx hy hz hN)
  have G0 := F0_fld.good
  have G1 := F1_fld.good
  have G2 := F2_fld.good
  have hx1 : x < F0.p := by rw [← hx]; exact Nat.mod_lt _ (by decide)
  have hy1 : y < F1.p := by rw [← hy]; exact Nat.mod_lt _ (by decide)
  have hz1 : z < F2.p := by rw [← hz]; exact Nat.mod_lt _ (by decide)
  have hN2 : N < 1237940039285380274899124224 := Nat.lt_trans hN (by decide)
  clear hx hy hz hN
  generalize F0 = f at *
  generalize F1 = g at *
  generalize F2 = h at *
  have p0 := G0.p1
  have p1 := G1.p1
  have p2 := G2.p1
  have q1 := G1.p0
  have q2 := G2.p0
  simp only [Nat.zero_add] at a0 a1 a2 a3 a4
  have b1 : w.cell? ⟨0, 6, none⟩ = _ := b1
  have b2 : w.cell? ⟨0, 7, none⟩ = _ := b2
  have b3 : w.cell? ⟨0, 8, none⟩ = _ := b3
  have b4 : w.cell? ⟨0, 9, none⟩ = _ := b4
  have c1 : w.cell? ⟨0, 11, none⟩ = _ := c1
  have c2 : w.cell? ⟨0, 12, none⟩ = _ := c2
  have c3 : w.cell? ⟨0, 13, none⟩ = _ := c3
  have c4 : w.cell? ⟨0, 14, none⟩ = _ := c4
  obtain ⟨n0, hn0⟩ : ∃ n0, N % 4294967296 = n0 := ⟨_, rfl⟩
  obtain ⟨n1, hn1⟩ : ∃ n1, N / 4294967296 % 4294967296 = n1 := ⟨_, rfl⟩
  obtain ⟨n2, hn2⟩ : ∃ n2, N / 18446744073709551616 % 4294967296 = n2 := ⟨_, rfl⟩
  rw [hn0, hn1, hn2]
  have HN0 := Lib.hid hn0
  have HN1 := Lib.hid hn1
  have HN2 := Lib.hid hn2
  clear hn0 hn1 hn2
  go_enter Tryz.func96, Tryz.ntmps96
  go_upto_region 1 with (fail)
  have hE0 : Ext w (w.alloc (.cells #[.int .u32 0, .int .u32 0, .int .u32 0] 97)) := (Ext.refl w).alloc _
  go_cut [7, 8, 9] from 16 to 21 (fun s7 s8 s9 wx => ∃ (B7 B8 B9 : Nat), s7 = .pointer (some ⟨B7, 0, none⟩) ∧ s8 = .pointer (some ⟨B8, 0, none⟩) ∧ s9 = .pointer (some ⟨B9, 0, none⟩) ∧ Bx wx B7 f ∧ Bx wx B8 g ∧ Bx wx B9 h ∧ w.heap.size ≠ B7 ∧ w.heap.size ≠ B8 ∧ w.heap.size ≠ B9 ∧ Ext (w.alloc (.cells #[.int .u32 0, .int .u32 0, .int .u32 0] 97)) wx)
  case first =>
    have hsz : (w.alloc (.cells #[.int .u32 0, .int .u32 0, .int .u32 0] 97)).heap.size = w.heap.size + 1 := by simp
    go_region
    all_goals
      (go_wp2_with (fail)
       go_meet
       first
        | exact ⟨_, _, _, rfl, rfl, rfl, (three _ (w.heap.size + 1) hsz f g h).1, (three _ (w.heap.size + 1) hsz f g h).2.1, (three _ (w.heap.size + 1) hsz f g h).2.2.1, by omega, by omega, by omega, (three _ (w.heap.size + 1) hsz f g h).2.2.2⟩
        | exact ⟨_, _, _, rfl, rfl, rfl, (three _ (w.heap.size + 1) hsz f h g).1, (three _ (w.heap.size + 1) hsz f h g).2.2.1, (three _ (w.heap.size + 1) hsz f h g).2.1, by omega, by omega, by omega, (three _ (w.heap.size + 1) hsz f h g).2.2.2⟩
        | exact ⟨_, _, _, rfl, rfl, rfl, (three _ (w.heap.size + 1) hsz g f h).2.1, (three _ (w.heap.size + 1) hsz g f h).1, (three _ (w.heap.size + 1) hsz g f h).2.2.1, by omega, by omega, by omega, (three _ (w.heap.size + 1) hsz g f h).2.2.2⟩
        | exact ⟨_, _, _, rfl, rfl, rfl, (three _ (w.heap.size + 1) hsz g h f).2.2.1, (three _ (w.heap.size + 1) hsz g h f).1, (three _ (w.heap.size + 1) hsz g h f).2.1, by omega, by omega, by omega, (three _ (w.heap.size + 1) hsz g h f).2.2.2⟩
        | exact ⟨_, _, _, rfl, rfl, rfl, (three _ (w.heap.size + 1) hsz h f g).2.1, (three _ (w.heap.size + 1) hsz h f g).2.2.1, (three _ (w.heap.size + 1) hsz h f g).1, by omega, by omega, by omega, (three _ (w.heap.size + 1) hsz h f g).2.2.2⟩
        | exact ⟨_, _, _, rfl, rfl, rfl, (three _ (w.heap.size + 1) hsz h g f).2.2.1, (three _ (w.heap.size + 1) hsz h g f).2.1, (three _ (w.heap.size + 1) hsz h g f).1, by omega, by omega, by omega, (three _ (w.heap.size + 1) hsz h g f).2.2.2⟩)
  case rest =>
    obtain ⟨B7, B8, B9, rfl, rfl, rfl, hX7, hX8, hX9, hn7, hn8, hn9, hE⟩ := hcut
    have hE0' := hE0
    have r0 : (w.alloc (.cells #[.int .u32 0, .int .u32 0, .int .u32 0] 97)).cell? ⟨w.heap.size, 0, none⟩ = some (.int .u32 0) := by go_simp
    have r1 : (w.alloc (.cells #[.int .u32 0, .int .u32 0, .int .u32 0] 97)).cell? ⟨w.heap.size, 1, none⟩ = some (.int .u32 0) := by go_simp
    have r2 : (w.alloc (.cells #[.int .u32 0, .int .u32 0, .int .u32 0] 97)).cell? ⟨w.heap.size, 2, none⟩ = some (.int .u32 0) := by go_simp
    have f0 : (w.alloc (.cells #[.int .u32 0, .int .u32 0, .int .u32 0] 97)).frozen? ⟨w.heap.size, 0, none⟩ = false := by go_simp
    have f1 : (w.alloc (.cells #[.int .u32 0, .int .u32 0, .int .u32 0] 97)).frozen? ⟨w.heap.size, 1, none⟩ = false := by go_simp
    have f2 : (w.alloc (.cells #[.int .u32 0, .int .u32 0, .int .u32 0] 97)).frozen? ⟨w.heap.size, 2, none⟩ = false := by go_simp
    generalize w.alloc (.cells #[.int .u32 0, .int .u32 0, .int .u32 0] 97) = w1 at *
    clear a0 a1 a2 a3 a4 b0 b1 b2 b3 b4 c0 c1 c2 c3 c4 hE0'
    -- the second digit
    obtain ⟨xm, hxm⟩ : ∃ xm, x % g.p = xm := ⟨_, rfl⟩
    have hxmp : xm < g.p := by rw [← hxm]; exact Nat.mod_lt _ (by omega)
    have hmi : (x : Int) % (g.p : Int) = (xm : Int) := by rw [← hxm, Int.natCast_emod]
    have hmt : ((x : Int)).tmod (g.p : Int) = (xm : Int) := by rw [Int.tmod_eq_emod_of_nonneg (by omega)]; exact hmi
    have hgz : ¬ ((g.p : Int) = 0) := by omega
    have hgz2 : ¬ (g.p = 0) := by omega
    have hgz3 : ((g.p : Int) == 0) = false := by rw [beq_eq_false_iff_ne]; omega
    have hxw : IntKind.u32.wrap (xm : Int) = (xm : Int) := by rw [IntKind.wrap_u32]; omega
    obtain ⟨s1, hs1⟩ : ∃ s1, (y + g.p - xm) % g.p = s1 := ⟨_, rfl⟩
    have hs1p : s1 < g.p := by rw [← hs1]; exact Nat.mod_lt _ (by omega)
    have hSub := Lib.hid (fun W => sub_calls W g G1 y xm hy1 hxmp)
    rw [hs1] at hSub
    have hga := G1.ab
    have hMul := Lib.hid (fun W => mul_calls W g G1 s1 g.ahead (by omega) (by omega) (lt_prod (by omega) hga))
    obtain ⟨v, hv⟩ : ∃ v, mm g s1 g.ahead = v := ⟨_, rfl⟩
    have hvp : v < g.p := by rw [← hv]; exact mm_lt g G1 _ _
    rw [hv] at hMul
    have HV : Hid (v = mm g ((y + g.p - x % g.p) % g.p) g.ahead) := by rw [Hid, hxm, hs1, hv]
    clear hxm hs1 hv
    have hS2 : (B8 < wc.drew.heap.size ∧ wc.drew.cell? ⟨B8, 0, none⟩ = some (.int .u32 (g.p : Int)) ∧ wc.drew.cell? ⟨B8, 1, none⟩ = some (.int .u32 (g.root : Int)) ∧ wc.drew.cell? ⟨B8, 2, none⟩ = some (.int .u32 (g.neg : Int)) ∧ wc.drew.cell? ⟨B8, 3, none⟩ = some (.int .u32 (g.square : Int)) ∧ wc.drew.cell? ⟨B8, 4, none⟩ = some (.int .u32 (g.ahead : Int))) := hX8
    go_wp2_with (fail)
    go_region_held3 (fun X => (B8 < X.heap.size ∧ X.cell? ⟨B8, 0, none⟩ = some (.int .u32 (g.p : Int)) ∧ X.cell? ⟨B8, 1, none⟩ = some (.int .u32 (g.root : Int)) ∧ X.cell? ⟨B8, 2, none⟩ = some (.int .u32 (g.neg : Int)) ∧ X.cell? ⟨B8, 3, none⟩ = some (.int .u32 (g.square : Int)) ∧ X.cell? ⟨B8, 4, none⟩ = some (.int .u32 (g.ahead : Int))))
      (first
        | exact hS2
        | assumption
        | exact keep5 (by assumption) (by assumption))
      (first
        | (go_at_call 120; ((with_reducible refine (hSub.out _).mono ?_); rintro e w3 ⟨rfl, hB3⟩))
        | (go_at_call 115; ((with_reducible refine (hMul.out _).mono ?_); rintro e w4 ⟨rfl, hB4⟩)))
    have hE4 : Ext wc w4 := (drawn hB3).below hB4
    clear hB3 hB4 hS2 hSub hMul hmi hmt hgz hgz2 hgz3 hxw
    replace hX7 := hX7.ext hE4
    replace hX8 := hX8.ext hE4
    replace hX9 := hX9.ext hE4
    replace hE := hE.below hE4
    -- low
    obtain ⟨fv, hfv⟩ : ∃ fv, f.p * v = fv := ⟨_, rfl⟩
    have hfvi : (f.p : Int) * (v : Int) = (fv : Int) := by rw [← hfv, Int.natCast_mul]
    have hfvb : fv < 1152921504606846976 := by rw [← hfv]; exact Nat.lt_of_le_of_lt (Nat.mul_le_mul (Nat.le_of_lt p0) (Nat.le_of_lt hvp)) (by omega)
    have hfvw : IntKind.u64.wrap (fv : Int) = (fv : Int) := by rw [IntKind.wrap_u64]; omega
    obtain ⟨low, hlow⟩ : ∃ low, fv + x = low := ⟨_, rfl⟩
    have hlowi : (fv : Int) + (x : Int) = (low : Int) := by omega
    have hloww : IntKind.u64.wrap (low : Int) = (low : Int) := by rw [IntKind.wrap_u64]; omega
    have HLW : Hid (low = f.p * v + x) := by rw [Hid, hfv, hlow]
    have hlowb : low < 2305843009213693952 := by omega
    obtain ⟨d0, d1, d2, d3, d4, d5⟩ := id hX7
    clear hfv hlow
    have hpw : IntKind.u64.wrap (f.p : Int) = (f.p : Int) := by rw [IntKind.wrap_u64]; omega
    have hvw : IntKind.u64.wrap (v : Int) = (v : Int) := by rw [IntKind.wrap_u64]; omega
    have hxw : IntKind.u64.wrap (x : Int) = (x : Int) := by rw [IntKind.wrap_u64]; omega
    go_upto_region 4 with (fail)
    -- the third digit
    clear hfvi hlowi hpw hvw hxw d0 d1 d2 d3 d4 d5
    obtain ⟨lm, hlm⟩ : ∃ lm, low % h.p = lm := ⟨_, rfl⟩
    have hlmp : lm < h.p := by rw [← hlm]; exact Nat.mod_lt _ (by omega)
    have hmi : (low : Int) % (h.p : Int) = (lm : Int) := by rw [← hlm, Int.natCast_emod]
    have hmt : ((low : Int)).tmod (h.p : Int) = (lm : Int) := by rw [Int.tmod_eq_emod_of_nonneg (by omega)]; exact hmi
    have hgz : ¬ ((h.p : Int) = 0) := by omega
    have hgz2 : ¬ (h.p = 0) := by omega
    have hgz3 : ((h.p : Int) == 0) = false := by rw [beq_eq_false_iff_ne]; omega
    have hxw : IntKind.u32.wrap (lm : Int) = (lm : Int) := by rw [IntKind.wrap_u32]; omega
    have hxw2 : IntKind.u64.wrap (lm : Int) = (lm : Int) := by rw [IntKind.wrap_u64]; omega
    have hhw : IntKind.u64.wrap (h.p : Int) = (h.p : Int) := by rw [IntKind.wrap_u64]; omega
    obtain ⟨s2, hs2⟩ : ∃ s2, (z + h.p - lm) % h.p = s2 := ⟨_, rfl⟩
    have hs2p : s2 < h.p := by rw [← hs2]; exact Nat.mod_lt _ (by omega)
    have hSub := Lib.hid (fun W => sub_calls W h G2 z lm hz1 hlmp)
    rw [hs2] at hSub
    have hga2 := G2.ab
    have hMul := Lib.hid (fun W => mul_calls W h G2 s2 h.ahead (by omega) (by omega) (lt_prod (by omega) hga2))
    obtain ⟨wv, hwv⟩ : ∃ wv, mm h s2 h.ahead = wv := ⟨_, rfl⟩
    have hwvp : wv < h.p := by rw [← hwv]; exact mm_lt h G2 _ _
    rw [hwv] at hMul
    have HW : Hid (wv = mm h ((z + h.p - low % h.p) % h.p) h.ahead) := by rw [Hid, hlm, hs2, hwv]
    clear hlm hs2 hwv
    have hS4 : (B9 < w4.drew.heap.size ∧ w4.drew.cell? ⟨B9, 0, none⟩ = some (.int .u32 (h.p : Int)) ∧ w4.drew.cell? ⟨B9, 1, none⟩ = some (.int .u32 (h.root : Int)) ∧ w4.drew.cell? ⟨B9, 2, none⟩ = some (.int .u32 (h.neg : Int)) ∧ w4.drew.cell? ⟨B9, 3, none⟩ = some (.int .u32 (h.square : Int)) ∧ w4.drew.cell? ⟨B9, 4, none⟩ = some (.int .u32 (h.ahead : Int))) := hX9
    go_region_held3 (fun X => (B9 < X.heap.size ∧ X.cell? ⟨B9, 0, none⟩ = some (.int .u32 (h.p : Int)) ∧ X.cell? ⟨B9, 1, none⟩ = some (.int .u32 (h.root : Int)) ∧ X.cell? ⟨B9, 2, none⟩ = some (.int .u32 (h.neg : Int)) ∧ X.cell? ⟨B9, 3, none⟩ = some (.int .u32 (h.square : Int)) ∧ X.cell? ⟨B9, 4, none⟩ = some (.int .u32 (h.ahead : Int))))
      (first
        | exact hS4
        | assumption
        | exact keep5 (by assumption) (by assumption))
      (first
        | (go_at_call 120; ((with_reducible refine (hSub.out _).mono ?_); rintro e w5 ⟨rfl, hB5⟩))
        | (go_at_call 115; ((with_reducible refine (hMul.out _).mono ?_); rintro e w6 ⟨rfl, hB6⟩)))
    have hE6 : Ext w4 w6 := (drawn hB5).below hB6
    clear hB5 hB6 hS4 hSub hMul hmi hmt hgz hgz2 hgz3 hxw hxw2 hX9
    replace hX7 := hX7.ext hE6
    replace hX8 := hX8.ext hE6
    replace hE := hE.below hE6
    -- all together
    obtain ⟨HJ1, _⟩ := HJ.out v low wv HV.out HLW.out HW.out
    obtain ⟨M, hM⟩ : ∃ M, f.p * g.p = M := ⟨_, rfl⟩
    have hMb : M < 1152921504606846977 := by rw [← hM]; exact Nat.lt_of_le_of_lt (Nat.mul_le_mul (Nat.le_of_lt p0) (Nat.le_of_lt p1)) (by omega)
    have hMi : (f.p : Int) * (g.p : Int) = (M : Int) := by rw [← hM, Int.natCast_mul]
    have hMw : IntKind.u64.wrap (M : Int) = (M : Int) := by rw [IntKind.wrap_u64]; omega
    have hpw : IntKind.u64.wrap (f.p : Int) = (f.p : Int) := by rw [IntKind.wrap_u64]; omega
    have hgw : IntKind.u64.wrap (g.p : Int) = (g.p : Int) := by rw [IntKind.wrap_u64]; omega
    have hww : IntKind.u64.wrap (wv : Int) = (wv : Int) := by rw [IntKind.wrap_u64]; omega
    have hM64 := Lib.hid (fun W => mul64_calls M wv (by omega) (by omega) W)
    rw [hM] at HJ1
    obtain ⟨T, hT⟩ : ∃ T, M * wv = T := ⟨_, rfl⟩
    rw [hT] at HJ1 hM64
    obtain ⟨hi, hhi⟩ : ∃ hi, T / 18446744073709551616 = hi := ⟨_, rfl⟩
    obtain ⟨lo, hlo⟩ : ∃ lo, T % 18446744073709551616 = lo := ⟨_, rfl⟩
    rw [hhi, hlo] at hM64
    have hadd := fun w => run_add lo low w
    obtain ⟨l1, hl1⟩ : ∃ l1, (lo + low) % 18446744073709551616 = l1 := ⟨_, rfl⟩
    obtain ⟨k1, hk1⟩ : ∃ k1, (lo + low) / 18446744073709551616 = k1 := ⟨_, rfl⟩
    rw [hl1, hk1] at hadd
    have hn0 := HN0.out
    have hn1 := HN1.out
    have hn2 := HN2.out
    have e0 : l1 % 4294967296 = n0 := by omega
    have e1 : l1 / 4294967296 = n1 := by omega
    have e2 : hi + k1 = n2 := by omega
    have bl : l1 < 18446744073709551616 := by omega
    have d0 : n0 < 4294967296 := by omega
    have d1 : n1 < 4294967296 := by omega
    have d2 : n2 < 4294967296 := by omega
    have bhi : hi ≤ n2 := by omega
    have bk1 : k1 ≤ n2 := by omega
    have i0 : (l1 : Int) % 4294967296 = (n0 : Int) := by omega
    have i0w : IntKind.u32.wrap (l1 : Int) = (n0 : Int) := by rw [IntKind.wrap_u32]; omega
    have i1 : (l1 : Int) / 4294967296 = (n1 : Int) := by omega
    have i1w : IntKind.u32.wrap (n1 : Int) = (n1 : Int) := by rw [IntKind.wrap_u32]; omega
    have i1m : (n1 : Int) % 4294967296 = (n1 : Int) := by omega
    have i2 : (hi : Int) + (k1 : Int) = (n2 : Int) := by omega
    have i2w : IntKind.u32.wrap (n2 : Int) = (n2 : Int) := by rw [IntKind.wrap_u32]; omega
    have i2x : IntKind.u64.wrap (n2 : Int) = (n2 : Int) := by rw [IntKind.wrap_u64]; omega
    have i2m : (n2 : Int) % 4294967296 = (n2 : Int) := by omega
    clear hM hT hhi hlo hl1 hk1 hn0 hn1 hn2 e0 e1 e2 HJ1
    obtain ⟨d0, d1, d2, d3, d4, d5⟩ := id hX7
    obtain ⟨e0, e1, e2, e3, e4, e5⟩ := id hX8
    go_wp2_with (fail)
    refine (hM64.out _).mono ?_
    rintro e w7 ⟨rfl, rfl⟩
    replace f0 := kept_free hE r0 f0
    replace f1 := kept_free hE r1 f1
    replace f2 := kept_free hE r2 f2
    replace r0 := kept_cell hE r0
    replace r1 := kept_cell hE r1
    replace r2 := kept_cell hE r2
    have hEw : Ext w w7 := hE0.below hE
    clear d0 d1 d2 d3 d4 d5 e0 e1 e2 e3 e4 e5 hX7 hX8 hE hM64
    go_wp2
    refine bodyPost_ret (v := .agg #[.int .u32 (n0 : Nat), .int .u32 (n1 : Nat), .int .u32 (n2 : Nat)]) ?_ rfl ⟨rfl, ?_⟩
    · simp [results, Tryz.results96, go_sem, *]
    · exact ((hEw.setCell (p := ⟨w.heap.size, 0, none⟩) (Nat.le_refl _) _).setCell (p := ⟨w.heap.size, 1, none⟩) (Nat.le_refl _) _).setCell (p := ⟨w.heap.size, 2, none⟩) (Nat.le_refl _) _
end Go.Proofs.YtikajmmeglookaaGreatDoor
/- Sums of products of two rows that are both long. -/
namespace Go.Proofs.YtikajmmeglookaaGreatDoor
open Go.RowKit
set_option linter.unusedVariables false
set_option maxHeartbeats 400000

theorem keepG {x y : World} {f g h : Fd} (hS : (0 < x.heap.size ∧ x.cell? ⟨0, 0, none⟩ = some (.int .u32 (f.p : Int)) ∧ x.cell? ⟨0, 1, none⟩ = some (.int .u32 (f.root : Int)) ∧ x.cell? ⟨0, 2, none⟩ = some (.int .u32 (f.neg : Int)) ∧ x.cell? ⟨0, 3, none⟩ = some (.int .u32 (f.square : Int)) ∧ x.cell? ⟨0, 4, none⟩ = some (.int .u32 (f.ahead : Int)) ∧ x.cell? ⟨0, 5, none⟩ = some (.int .u32 (g.p : Int)) ∧ x.cell? ⟨0, 6, none⟩ = some (.int .u32 (g.root : Int)) ∧ x.cell? ⟨0, 7, none⟩ = some (.int .u32 (g.neg : Int)) ∧ x.cell? ⟨0, 8, none⟩ = some (.int .u32 (g.square : Int)) ∧ x.cell? ⟨0, 9, none⟩ = some (.int .u32 (g.ahead : Int)) ∧ x.cell? ⟨0, 10, none⟩ = some (.int .u32 (h.p : Int)) ∧ x.cell? ⟨0, 11, none⟩ = some (.int .u32 (h.root : Int)) ∧ x.cell? ⟨0, 12, none⟩ = some (.int .u32 (h.neg : Int)) ∧ x.cell? ⟨0, 13, none⟩ = some (.int .u32 (h.square : Int)) ∧ x.cell? ⟨0, 14, none⟩ = some (.int .u32 (h.ahead : Int)))) (hB : Ext x y) : (0 < y.heap.size ∧ y.cell? ⟨0, 0, none⟩ = some (.int .u32 (f.p : Int)) ∧ y.cell? ⟨0, 1, none⟩ = some (.int .u32 (f.root : Int)) ∧ y.cell? ⟨0, 2, none⟩ = some (.int .u32 (f.neg : Int)) ∧ y.cell? ⟨0, 3, none⟩ = some (.int .u32 (f.square : Int)) ∧ y.cell? ⟨0, 4, none⟩ = some (.int .u32 (f.ahead : Int)) ∧ y.cell? ⟨0, 5, none⟩ = some (.int .u32 (g.p : Int)) ∧ y.cell? ⟨0, 6, none⟩ = some (.int .u32 (g.root : Int)) ∧ y.cell? ⟨0, 7, none⟩ = some (.int .u32 (g.neg : Int)) ∧ y.cell? ⟨0, 8, none⟩ = some (.int .u32 (g.square : Int)) ∧ y.cell? ⟨0, 9, none⟩ = some (.int .u32 (g.ahead : Int)) ∧ y.cell? ⟨0, 10, none⟩ = some (.int .u32 (h.p : Int)) ∧ y.cell? ⟨0, 11, none⟩ = some (.int .u32 (h.root : Int)) ∧ y.cell? ⟨0, 12, none⟩ = some (.int .u32 (h.neg : Int)) ∧ y.cell? ⟨0, 13, none⟩ = some (.int .u32 (h.square : Int)) ∧ y.cell? ⟨0, 14, none⟩ = some (.int .u32 (h.ahead : Int))) := by
  obtain ⟨h0, a0, a1, a2, a3, a4, b0, b1, b2, b3, b4, c0, c1, c2, c3, c4⟩ := hS
  have hs := hB.size
  have hc := fun o => hB.cell (p := ⟨0, o, none⟩) h0
  exact ⟨by omega, (hc _).trans a0, (hc _).trans a1, (hc _).trans a2, (hc _).trans a3, (hc _).trans a4, (hc _).trans b0, (hc _).trans b1, (hc _).trans b2, (hc _).trans b3, (hc _).trans b4, (hc _).trans c0, (hc _).trans c1, (hc _).trans c2, (hc _).trans c3, (hc _).trans c4⟩

theorem keep3 {x y : World} {p q r : Addr} {u v s : Value} (h : x.cell? p = some u ∧ x.cell? q = some v ∧ x.cell? r = some s) (hB : Ext x y) : y.cell? p = some u ∧ y.cell? q = some v ∧ y.cell? r = some s :=
  ⟨kept_cell hB h.1, kept_cell hB h.2.1, kept_cell hB h.2.2⟩
theorem keep3S {x : World} {p q r : Addr} {u v s : Value} {g o1 o2 o3 : Nat} {v1 v2 v3 : Value} (h : x.cell? p = some u ∧ x.cell? q = some v ∧ x.cell? r = some s) (hp : p.block ≠ g) (hq : q.block ≠ g) (hr : r.block ≠ g) :
    (((x.setCell ⟨g, o1, none⟩ v1).setCell ⟨g, o2, none⟩ v2).setCell ⟨g, o3, none⟩ v3).cell? p = some u ∧ (((x.setCell ⟨g, o1, none⟩ v1).setCell ⟨g, o2, none⟩ v2).setCell ⟨g, o3, none⟩ v3).cell? q = some v ∧ (((x.setCell ⟨g, o1, none⟩ v1).setCell ⟨g, o2, none⟩ v2).setCell ⟨g, o3, none⟩ v3).cell? r = some s := by
  have k := (((But.refl g x).setCell o1 v1).setCell o2 v2).setCell o3 v3
  exact ⟨(k.cell (World.block_lt_of_cell? x _ h.1) hp).trans h.1, (k.cell (World.block_lt_of_cell? x _ h.2.1) hq).trans h.2.1, (k.cell (World.block_lt_of_cell? x _ h.2.2) hr).trans h.2.2⟩
/-- What the rests tell. -/
theorem rest_at {f : Fd} (N r : Nat) (hr : r < f.p) (h : Eqm (f.p : Int) (r : Int) (N : Int)) : N % f.p = r := by
  have := h.nat_eq
  rw [Nat.mod_eq_of_lt hr] at this
  exact this.symm

set_option maxRecDepth 100000 in
set_option maxHeartbeats 8000000 in
theorem conv_big (w : World) (hg : Gl w) (v u : Value) (a b : List Nat) (hua : U w v a) (hub : U w u b) (hal : a.length ≤ 30000) (hbl : b.length ≤ 30000) (hs : 24 < min a.length b.length) :
    Calls Tryz.prog 82 #[v, u] w fun e w' => (∃ z, e = .returned z ∧ U3 w' z (cvs a b)) ∧ Ext w w' := by
  have ha0 : 0 < a.length := by omega
  have hb0 : 0 < b.length := by omega
  rw [cvs_pos a b ha0 hb0]
  obtain ⟨hw0, ⟨a0, a1, a2, a3, a4⟩, ⟨b0, b1, b2, b3, b4⟩, ⟨c0, c1, c2, c3, c4⟩⟩ := id hg
  obtain ⟨A, ca, rfl, _, hxa, _⟩ := id hua
  obtain ⟨A2, cb, rfl, _, hxb, _⟩ := id hub
  obtain ⟨n, hn⟩ : ∃ n, a.length + b.length - 1 = n := ⟨_, rfl⟩
  obtain ⟨k, hk⟩ : ∃ k, blen (n - 1) = k := ⟨_, rfl⟩
  have hk16 : k ≤ 16 := by rw [← hk]; exact blen_le_of_lt (by omega)
  obtain ⟨m, hm⟩ : ∃ m, 2 ^ k = m := ⟨_, rfl⟩
  have hnm : n ≤ m := by have := lt_pow_blen (n - 1); rw [hk, hm] at this; omega
  have hm1 : m ≤ 65536 := by rw [← hm]; exact Nat.pow_le_pow_right (by decide) hk16
  have hN : ∀ j, cv a b a.length j < F0.p * F1.p * F2.p := fun j => Nat.lt_of_le_of_lt (Nat.le_trans (cv_le a b hxa hxb a.length j) (Nat.mul_le_mul_right _ hal)) (by decide)
  have hR0 := Lib.hid (fun W h1 h2 => rests_calls W F0 F0_fld k m hm hk16 (.slice A a.length ca) (.slice A2 b.length cb) a b h1 h2 (by omega) (by omega) (by omega))
  have hR1 := Lib.hid (fun W h1 h2 => rests_calls W F1 F1_fld k m hm hk16 (.slice A a.length ca) (.slice A2 b.length cb) a b h1 h2 (by omega) (by omega) (by omega))
  have hR2 := Lib.hid (fun W h1 h2 => rests_calls W F2 F2_fld k m hm hk16 (.slice A a.length ca) (.slice A2 b.length cb) a b h1 h2 (by omega) (by omega) (by omega))
  have hJ := Lib.hid (fun W hg j x y z hx hy hz => join_calls W hg (cv a b a.length j) x y z hx hy hz (hN j))
  have HG := Lib.hid hg
  have hcl : (conv a b).length = n := by rw [conv_len, hn]
  have hca : Hid (∀ j, j < n → lb (conv a b) j = cv a b a.length j) := fun j hj => lb_conv a b j (by omega)
  have HCL := Lib.hid hcl
  have HU0 := Lib.hid hua
  have HU1 := Lib.hid hub
  have Fp0 : 1 < F0.p := by decide
  have Fp1 : 1 < F1.p := by decide
  have Fp2 : 1 < F2.p := by decide
  have HLn := Lib.hid (fun W => len_calls W (n - 1) (by omega))
  rw [hk] at HLn
  simp only [Nat.zero_add] at a0 a1 a2 a3 a4
  have hS0 : (0 < w.heap.size ∧ w.cell? ⟨0, 0, none⟩ = some (.int .u32 (F0.p : Int)) ∧ w.cell? ⟨0, 1, none⟩ = some (.int .u32 (F0.root : Int)) ∧ w.cell? ⟨0, 2, none⟩ = some (.int .u32 (F0.neg : Int)) ∧ w.cell? ⟨0, 3, none⟩ = some (.int .u32 (F0.square : Int)) ∧ w.cell? ⟨0, 4, none⟩ = some (.int .u32 (F0.ahead : Int)) ∧ w.cell? ⟨0, 5, none⟩ = some (.int .u32 (F1.p : Int)) ∧ w.cell? ⟨0, 6, none⟩ = some (.int .u32 (F1.root : Int)) ∧ w.cell? ⟨0, 7, none⟩ = some (.int .u32 (F1.neg : Int)) ∧ w.cell? ⟨0, 8, none⟩ = some (.int .u32 (F1.square : Int)) ∧ w.cell? ⟨0, 9, none⟩ = some (.int .u32 (F1.ahead : Int)) ∧ w.cell? ⟨0, 10, none⟩ = some (.int .u32 (F2.p : Int)) ∧ w.cell? ⟨0, 11, none⟩ = some (.int .u32 (F2.root : Int)) ∧ w.cell? ⟨0, 12, none⟩ = some (.int .u32 (F2.neg : Int)) ∧ w.cell? ⟨0, 13, none⟩ = some (.int .u32 (F2.square : Int)) ∧ w.cell? ⟨0, 14, none⟩ = some (.int .u32 (F2.ahead : Int))) := ⟨hw0, a0, a1, a2, a3, a4, b0, b1, b2, b3, b4, c0, c1, c2, c3, c4⟩
  clear a0 a1 a2 a3 a4 b0 b1 b2 b3 b4 c0 c1 c2 c3 c4 hcl hxa hxb hN hg hk hm
  generalize F0 = f at *
  generalize F1 = g at *
  generalize F2 = fc at *
  obtain ⟨na, hna⟩ : ∃ na, a.length = na := ⟨_, rfl⟩
  obtain ⟨nb, hnb⟩ : ∃ nb, b.length = nb := ⟨_, rfl⟩
  rw [hna] at hn hal hs ha0 HU0 hR0 hR1 hR2 hJ hca hua ⊢
  rw [hnb] at hn hbl hs hb0 HU1 hR0 hR1 hR2 hub ⊢
  clear hna hnb
  have hz : (((na : Nat) : Int) == 0) = false := by rw [beq_eq_false_iff_ne]; omega
  have hz2 : (((nb : Nat) : Int) == 0) = false := by rw [beq_eq_false_iff_ne]; omega
  obtain ⟨q, hq⟩ : ∃ q, min na nb = q := ⟨_, rfl⟩
  have hmi : min ((na : Nat) : Int) ((nb : Nat) : Int) = (q : Int) := by omega
  have hmd : decide ((q : Int) ≤ 24) = false := by rw [decide_eq_false_iff_not]; omega
  have hmd1 : decide ((na : Int) ≤ 24) = false := by rw [decide_eq_false_iff_not]; omega
  have hmd2 : decide ((nb : Int) ≤ 24) = false := by rw [decide_eq_false_iff_not]; omega
  have hif : (if nb < na then (nb : Int) else (na : Int)) = (q : Int) := by split <;> omega
  have hnn : (na : Int) + (nb : Int) - 1 = (n : Int) := by omega
  have hn1 : (n : Int) - 1 = ((n - 1 : Nat) : Int) := by omega
  have hnw : IntKind.u64.wrap ((n - 1 : Nat) : Int) = ((n - 1 : Nat) : Int) := by rw [IntKind.wrap_u64]; omega
  have hn30 : n ≤ 60000 := by omega
  have hn2 : 0 < n := by omega
  obtain ⟨n1, hn1n⟩ : ∃ n1, n - 1 = n1 := ⟨_, rfl⟩
  rw [hn1n] at hn1 hnw HLn
  clear hq hs hn hn1n
  go_enter Tryz.func82, Tryz.ntmps82
  go_wp2_with (fail)
  refine (HLn.out _).mono ?_
  rintro e w1 ⟨rfl, rfl⟩
  go_wp2_with (fail)
  have hS1 : (0 < w.drew.heap.size ∧ w.drew.cell? ⟨0, 0, none⟩ = some (.int .u32 (f.p : Int)) ∧ w.drew.cell? ⟨0, 1, none⟩ = some (.int .u32 (f.root : Int)) ∧ w.drew.cell? ⟨0, 2, none⟩ = some (.int .u32 (f.neg : Int)) ∧ w.drew.cell? ⟨0, 3, none⟩ = some (.int .u32 (f.square : Int)) ∧ w.drew.cell? ⟨0, 4, none⟩ = some (.int .u32 (f.ahead : Int)) ∧ w.drew.cell? ⟨0, 5, none⟩ = some (.int .u32 (g.p : Int)) ∧ w.drew.cell? ⟨0, 6, none⟩ = some (.int .u32 (g.root : Int)) ∧ w.drew.cell? ⟨0, 7, none⟩ = some (.int .u32 (g.neg : Int)) ∧ w.drew.cell? ⟨0, 8, none⟩ = some (.int .u32 (g.square : Int)) ∧ w.drew.cell? ⟨0, 9, none⟩ = some (.int .u32 (g.ahead : Int)) ∧ w.drew.cell? ⟨0, 10, none⟩ = some (.int .u32 (fc.p : Int)) ∧ w.drew.cell? ⟨0, 11, none⟩ = some (.int .u32 (fc.root : Int)) ∧ w.drew.cell? ⟨0, 12, none⟩ = some (.int .u32 (fc.neg : Int)) ∧ w.drew.cell? ⟨0, 13, none⟩ = some (.int .u32 (fc.square : Int)) ∧ w.drew.cell? ⟨0, 14, none⟩ = some (.int .u32 (fc.ahead : Int))) := hS0
  have hA0 : U w.drew (.slice A na ca) a := hua
  have hB0 : U w.drew (.slice A2 nb cb) b := hub
  go_region_held3 (fun X => (0 < X.heap.size ∧ X.cell? ⟨0, 0, none⟩ = some (.int .u32 (f.p : Int)) ∧ X.cell? ⟨0, 1, none⟩ = some (.int .u32 (f.root : Int)) ∧ X.cell? ⟨0, 2, none⟩ = some (.int .u32 (f.neg : Int)) ∧ X.cell? ⟨0, 3, none⟩ = some (.int .u32 (f.square : Int)) ∧ X.cell? ⟨0, 4, none⟩ = some (.int .u32 (f.ahead : Int)) ∧ X.cell? ⟨0, 5, none⟩ = some (.int .u32 (g.p : Int)) ∧ X.cell? ⟨0, 6, none⟩ = some (.int .u32 (g.root : Int)) ∧ X.cell? ⟨0, 7, none⟩ = some (.int .u32 (g.neg : Int)) ∧ X.cell? ⟨0, 8, none⟩ = some (.int .u32 (g.square : Int)) ∧ X.cell? ⟨0, 9, none⟩ = some (.int .u32 (g.ahead : Int)) ∧ X.cell? ⟨0, 10, none⟩ = some (.int .u32 (fc.p : Int)) ∧ X.cell? ⟨0, 11, none⟩ = some (.int .u32 (fc.root : Int)) ∧ X.cell? ⟨0, 12, none⟩ = some (.int .u32 (fc.neg : Int)) ∧ X.cell? ⟨0, 13, none⟩ = some (.int .u32 (fc.square : Int)) ∧ X.cell? ⟨0, 14, none⟩ = some (.int .u32 (fc.ahead : Int))))
    (first
      | exact hS1
      | assumption
      | exact keepG (by assumption) (by assumption))
    (first
      | (go_at_call 95; ((with_reducible refine (hR0.out _ hA0 hB0).mono ?_); rintro e w3 ⟨⟨u3, r3, rfl, hU3, hl3, hlt3, hm3⟩, hB3⟩; have hA3 := hA0.below hB3; have hB3' := hB0.below hB3))
      | (go_at_call 95; ((with_reducible refine (hR1.out _ hA3 hB3').mono ?_); rintro e w4 ⟨⟨u4, r4, rfl, hU4, hl4, hlt4, hm4⟩, hB4⟩; have hA4 := hA3.below hB4; have hB4' := hB3'.below hB4))
      | (go_at_call 95; ((with_reducible refine (hR2.out _ hA4 hB4').mono ?_); rintro e w5 ⟨⟨u5, r5, rfl, hU5, hl5, hlt5, hm5⟩, hB5⟩)))
  have hE5 : Ext w w5 := ((drawn hB3).below hB4).below hB5
  replace hU3 := (hU3.below hB4).below hB5
  replace hU4 := hU4.below hB5
  obtain ⟨ad3, c3, hv3, _, hb3, hc3⟩ := hU3.opened hl3 (by omega)
  obtain ⟨ad4, c4, hv4, _, hb4, hc4⟩ := hU4.opened hl4 (by omega)
  obtain ⟨ad5, c5, hv5, _, hb5, hc5⟩ := hU5.opened hl5 (by omega)
  subst hv3 hv4 hv5
  have H3 := Lib.hid (fun j (hj : j < m) => rest_at (f := f) (cv a b na j) (lb r3 j) (lb_lt_of (by omega) hlt3 _) (hm3 j hj))
  have H4 := Lib.hid (fun j (hj : j < m) => rest_at (f := g) (cv a b na j) (lb r4 j) (lb_lt_of (by omega) hlt4 _) (hm4 j hj))
  have H5 := Lib.hid (fun j (hj : j < m) => rest_at (f := fc) (cv a b na j) (lb r5 j) (lb_lt_of (by omega) hlt5 _) (hm5 j hj))
  obtain ⟨i0, hi, hz0, hz1, hz2⟩ := info_parts info3
  clear hS0 hS1 hA0 hB0 hA3 hB3' hA4 hB4' hB3 hB4 hB5 hU3 hU4 hU5 hm3 hm4 hm5 hlt3 hlt4 hlt5 hua hub hR0 hR1 hR2
  go_wp2_with (at_make; refine wpList_make_full _ rfl _ _ 85 rfl (w5.heap.size) 97 i0 (.agg #[.int .u32 0, .int .u32 0, .int .u32 0]) 3 Tryz.underlying85 hi hz0 hz1 _ _ _ _ n rfl rfl (by omega) (by omega) (by rw [hz2]; omega) (by unfold maxLen; omega) (Nat.le_refl _) ?_; intro w6 hown hgrow)
  have ho0 : Own3 w6 w5.heap.size (.slice (some ⟨w5.heap.size, 0, none⟩) n n) (List.replicate n 0) := by
    have := hown
    rw [madeCells3] at this
    unfold Own3
    rw [List.length_replicate]
    exact this
  have hB6 : Ext w5 w6 := (Ext.refl w5).grown hgrow (Nat.le_refl _) (fun _ h => by cases h)
  clear hown hgrow hi hz0 hz1 hz2 i0
  obtain ⟨B, hB⟩ : ∃ B, w5.heap.size = B := ⟨_, rfl⟩
  have HBB := Lib.hid hB
  rw [hB] at hb3 hb4 hb5 ho0 ⊢
  clear hB
  go_loopw [61] (fun t wr => ∃ (j : Nat) (o : List Nat), j ≤ n ∧ t = .int .i64 (j : Nat) ∧ Hid (o.length = n ∧ ∀ q, q < j → lb o q = cv a b na q) ∧ Own3 wr B (.slice (some ⟨B, 0, none⟩) n n) o ∧ Ext w5 wr) (fun t _ => n - (intOf t).toNat)
  case atStart => exact ⟨0, _, Nat.zero_le _, rfl, ⟨by simp, fun q hq => by omega⟩, ho0, hB6⟩
  case round =>
    clear ho0 hB6
    obtain ⟨j, o, hj, rfl, HO, hown, hE⟩ := hrel
    by_cases hlt : j < n
    · have hx1 := (hE.cell (p := ad3.add j) (by rw [addr_add_block, HBB.out]; exact hb3)).trans (hc3 j (by omega))
      have hx2 := (hE.cell (p := ad4.add j) (by rw [addr_add_block, HBB.out]; exact hb4)).trans (hc4 j (by omega))
      have hx3 := (hE.cell (p := ad5.add j) (by rw [addr_add_block, HBB.out]; exact hb5)).trans (hc5 j (by omega))
      have hGj : Gl wr.drew := HG.out.ext (hE5.below hE).drew
      have hJJ := hJ.out wr.drew hGj j _ _ _ (H3.out j (by omega)) (H4.out j (by omega)) (H5.out j (by omega))
      have HST : Hid ((o.set j (cv a b na j)).length = n ∧ ∀ q, q < j + 1 → lb (o.set j (cv a b na j)) q = cv a b na q) := by
        refine ⟨by rw [List.length_set]; exact HO.out.1, fun q hq => ?_⟩
        rw [lb_set _ _ _ _ (by rw [HO.out.1]; exact hlt)]
        by_cases e : j = q
        · rw [if_pos e, e]
        · rw [if_neg e]; exact HO.out.2 q (by omega)
      generalize lb r3 j = x at *
      generalize lb r4 j = y at *
      generalize lb r5 j = z at *
      obtain ⟨N, hN⟩ : ∃ N, cv a b na j = N := ⟨_, rfl⟩
      rw [hN] at hJJ HST
      obtain ⟨z0, hz0⟩ : ∃ z0, N % 4294967296 = z0 := ⟨_, rfl⟩
      obtain ⟨z1, hz1⟩ : ∃ z1, N / 4294967296 % 4294967296 = z1 := ⟨_, rfl⟩
      obtain ⟨z2, hz2⟩ : ∃ z2, N / 18446744073709551616 % 4294967296 = z2 := ⟨_, rfl⟩
      rw [hz0, hz1, hz2] at hJJ
      have hol := HO.out.1
      have hj0 : (0 : Int) ≤ (j : Int) := by omega
      have hj1 : (j : Int) < (n : Int) := by omega
      have hj2 : (j : Int) < (m : Int) := by omega
      have hSS : wr.drew.cell? (ad3.add j) = some (.int .u32 (x : Nat)) ∧ wr.drew.cell? (ad4.add j) = some (.int .u32 (y : Nat)) ∧ wr.drew.cell? (ad5.add j) = some (.int .u32 (z : Nat)) := ⟨hx1, hx2, hx3⟩
      have hn3 : (ad3.add j).block ≠ B := by rw [addr_add_block]; omega
      have hn4 : (ad4.add j).block ≠ B := by rw [addr_add_block]; omega
      have hn5 : (ad5.add j).block ≠ B := by rw [addr_add_block]; omega
      have hown' : Own3 wr.drew B (.slice (some ⟨B, 0, none⟩) n n) o := hown
      clear hc3 hc4 hc5 HO hN hx1 hx2 hx3
      go_wp2_with (fail)
      go_region_held3 (fun X => X.cell? (ad3.add j) = some (.int .u32 (x : Nat)) ∧ X.cell? (ad4.add j) = some (.int .u32 (y : Nat)) ∧ X.cell? (ad5.add j) = some (.int .u32 (z : Nat)))
        (first
          | exact hSS
          | assumption
          | exact keep3 (by assumption) (by assumption)
          | exact keep3S (keep3 hSS hB7) hn3 hn4 hn5)
        (first
          | (go_at_call 96; ((with_reducible refine hJJ.mono ?_); rintro e w7 ⟨rfl, hB7⟩; have ho7 := hown'.ext hB7; have k0 := ho7.cell (j := j * 3) (by omega); have k1 := ho7.cell (j := j * 3 + 1) (by omega); have k2 := ho7.cell (j := j * 3 + 2) (by omega); have f0 := ho7.frozen (j * 3); have f1 := ho7.frozen (j * 3 + 1); have f2 := ho7.frozen (j * 3 + 2))))
      have ho8 := ho7.set_ j N (by omega)
      rw [hz0, hz1, hz2] at ho8
      have hsz : w5.heap.size ≤ B := by rw [HBB.out]; exact Nat.le_refl _
      have hE8 : Ext w5 (((w7.setCell ⟨B, j * 3, none⟩ (.int .u32 (z0 : Nat))).setCell ⟨B, j * 3 + 1, none⟩ (.int .u32 (z1 : Nat))).setCell ⟨B, j * 3 + 2, none⟩ (.int .u32 (z2 : Nat))) :=
        (((hE.drew.below hB7).setCell (p := ⟨B, j * 3, none⟩) hsz _).setCell (p := ⟨B, j * 3 + 1, none⟩) hsz _).setCell (p := ⟨B, j * 3 + 2, none⟩) hsz _
      clear ho7 hown hown' hE hB7 hJJ hSS
      go_wp2
      go_roundw
      case rel => exact ⟨j + 1, _, by omega, by go_num, HST, ho8, hE8⟩
      case measure => simp [intOf]; omega
    · obtain rfl : j = n := by omega
      have hcv : o = conv a b := by
        refine ext_lb (by rw [HO.out.1, HCL.out]) fun q hq => ?_
        rw [HO.out.1] at hq
        rw [HO.out.2 q hq, hca.out q hq]
      have hU := hown.toU
      rw [hcv] at hU
      have HF : Hid (∃ z, Ending.returned (.slice (some ⟨B, 0, none⟩) j j) = .returned z ∧ U3 wr z (conv a b)) := ⟨_, rfl, hU⟩
      have hE9 := hE5.below hE
      clear hU hown HO hE hc3 hc4 hc5
      go_wp2
      go_ret
      exact ⟨HF.out, hE9⟩
/-- Sums of products of any two rows. -/
theorem conv_all (w : World) (hg : Gl w) (v u : Value) (a b : List Nat) (hua : U w v a) (hub : U w u b) (hal : a.length ≤ 30000) (hbl : b.length ≤ 30000) (cs : List Nat) (hc : cvs a b = cs) :
    Calls Tryz.prog 82 #[v, u] w fun e w' => ∃ z, e = .returned z ∧ U3 w' z cs ∧ Ext w w' := by
  subst hc
  rcases Nat.lt_or_ge 24 (min a.length b.length) with h | h
  · exact (conv_big w hg v u a b hua hub hal hbl h).mono fun e w' ⟨⟨z, he, hz⟩, hB⟩ => ⟨z, he, hz, hB⟩
  · exact conv_B w v u a b hua hub (by omega) (by omega) h _ rfl
end Go.Proofs.YtikajmmeglookaaGreatDoor
/- A slice of 32-bit limbs that reads as a list of naturals; kept while what lay in memory is kept. -/
namespace Go.Proofs.YtikajmmeglookaaGreatDoor
open Go.RowKit

/-- The number n as a slice of its limbs. -/
def Un (w : World) (v : Value) (n : Nat) : Prop := U w v (limbs n)
theorem Un.below {w w' : World} {v : Value} {n : Nat} (h : Un w v n) (hb : Below w.heap.size w w') : Un w' v n := U.below h hb
end Go.Proofs.YtikajmmeglookaaGreatDoor
/- walks -/
namespace Go.Proofs.YtikajmmeglookaaGreatDoor
open Go.RowKit
set_option linter.unusedVariables false
set_option maxHeartbeats 400000
set_option maxRecDepth 100000

def rightB (xs : List Nat) : Bool := decide (xs.length ≤ 65536) && (xs.isEmpty || lb xs (xs.length - 1) != 0)

theorem bne_cast (a : Nat) : (((a : Nat) : Int) != 0) = (a != 0) := by
  rw [Bool.eq_iff_iff, bne_iff_ne, bne_iff_ne]; omega

theorem make_calls (w : World) (v : Value) (xs : List Nat) (h : U w v xs) :
    Calls Tryz.prog 47 #[v] w fun e w' => (∃ u, e = .returned u ∧ U w u (limbs (val xs))) ∧ w = w' := by
  have h' := h
  obtain ⟨A, c, rfl, ⟨hc, hm⟩, hx, hr⟩ := h
  go_enter Tryz.func47, Tryz.ntmps47
  go_wp2
  go_loop [3] (fun n => ∃ k : Nat, k ≤ xs.length ∧ n = .int .i64 k ∧ Hid (∀ j, k ≤ j → j < xs.length → lb xs j = 0)) (fun n => (intOf n).toNat)
  case atStart => exact ⟨xs.length, Nat.le_refl _, rfl, fun j h1 h2 => by omega⟩
  case round =>
    obtain ⟨k, hk, rfl, hz⟩ := hrel
    have hfin : ∀ c', k ≤ c' → (0 < k → lb xs (k - 1) ≠ 0) → U w (.slice A k c') (limbs (val xs)) := fun c' h1 h2 => by
      rw [strip_eq xs k hx hk hz.out h2]; exact h'.take hk h1
    rcases Nat.eq_zero_or_pos k with rfl | h0
    · have HF := Lib.hid (hfin 0 (Nat.le_refl _) (fun h => absurd h (by omega)))
      clear hfin
      go_wp2
      go_ways
      go_ret
      exact ⟨⟨_, rfl, HF.out⟩, rfl⟩
    · obtain ⟨ad, rfl, hb, hcell⟩ := hr (by omega)
      have hc1 := hcell (k - 1) (by omega)
      by_cases hx0 : lb xs (k - 1) = 0
      · have ht : ((((lb xs (k - 1) : Nat)) : Int) == 0) = true := by rw [hx0]; rfl
        have HX := Lib.hid hx0
        clear hx0
        go_wp2
        go_round
        case rel => exact ⟨k - 1, by omega, by go_num, fun j h1 h2 => by
          rcases Nat.lt_or_ge j k with h3 | h3
          · have : j = k - 1 := by omega
            subst this; exact HX.out
          · exact hz.out j h3 h2⟩
        case measure => simp [intOf]; omega
      · have ht : ((((lb xs (k - 1) : Nat)) : Int) == 0) = false := by rw [beq_eq_false_iff_ne]; omega
        have HF := Lib.hid (hfin k (Nat.le_refl _) (fun _ => hx0))
        clear hfin hx0
        go_wp2
        go_ret
        exact ⟨⟨_, rfl, HF.out⟩, rfl⟩
end Go.Proofs.YtikajmmeglookaaGreatDoor
/- walks -/
namespace Go.Proofs.YtikajmmeglookaaGreatDoor
open Go.RowKit
set_option linter.unusedVariables false
set_option maxHeartbeats 400000
set_option maxRecDepth 100000

theorem same_calls (w : World) (v u : Value) (xs ys : List Nat) (h : U w v xs) (g : U w u ys) :
    Calls Tryz.prog 19 #[v, u] w fun e w' => e = .returned (.bool (decide (xs = ys))) ∧ ∃ n, w' = w.drewN n := by
  obtain ⟨A, c, rfl, ⟨hc, hm⟩, hx, hr⟩ := h
  obtain ⟨A2, c2, rfl, ⟨hc2, hm2⟩, hx2, hr2⟩ := g
  by_cases hl : xs.length = ys.length
  · have hl1 : (((xs.length : Nat) : Int) != ((ys.length : Nat) : Int)) = false := by rw [bne_eq_false_iff_eq, hl]
    have HL := Lib.hid hl
    clear hl
    go_enter Tryz.func19, Tryz.ntmps19
    go_wp2
    go_loopw [5] (fun n wr => ∃ k : Nat, k ≤ xs.length ∧ n = .int .i64 k ∧ Hid (∀ j, j < k → lb xs j = lb ys j) ∧ ∃ m, wr = w.drewN m) (fun n _ => xs.length - (intOf n).toNat)
    case atStart => exact ⟨0, Nat.zero_le _, rfl, fun j h => by omega, 0, rfl⟩
    case round =>
      obtain ⟨k, hk, rfl, hz, m, rfl⟩ := hrel
      by_cases hlt : k < xs.length
      · obtain ⟨ad, rfl, hb, hcell⟩ := hr (by omega)
        obtain ⟨ad2, rfl, hb2, hcell2⟩ := hr2 (by have := HL.out; omega)
        have hc1 := hcell k hlt
        have hc3 := hcell2 k (by have := HL.out; omega)
        have hk2 : ((k : Nat) : Int) < ys.length := by have := HL.out; omega
        by_cases he : lb xs k = lb ys k
        · have ht : ((((lb xs k : Nat)) : Int) != ((lb ys k : Nat) : Int)) = false := by rw [bne_eq_false_iff_eq, he]
          have HX := Lib.hid he
          clear he
          go_wp2
          go_quiet (fail)
          go_wp2
          go_roundw
          case rel => exact ⟨k + 1, by omega, by go_num, fun j h1 => by
            rcases Nat.lt_or_ge j k with h3 | h3
            · exact hz.out j h3
            · have : j = k := by omega
              subst this; exact HX.out, _, rfl⟩
          case measure => simp [intOf]; omega
        · have ht : ((((lb xs k : Nat)) : Int) != ((lb ys k : Nat) : Int)) = true := by rw [bne_iff_ne]; omega
          have HX := Lib.hid he
          clear he
          have hf : decide (xs = ys) = false := decide_eq_false fun h => HX.out (by rw [h])
          have HF := Lib.hid hf
          clear hf
          go_wp2
          go_quiet (fail)
          go_wp2
          go_ret
          exact ⟨by rw [HF.out]; rfl, _, World.drewN_drewN _ _ _⟩
      · have hf : decide (xs = ys) = true := decide_eq_true (ext_lb HL.out fun j hj => hz.out j (by omega))
        have HF := Lib.hid hf
        clear hf
        go_wp2
        go_ret
        exact ⟨by rw [HF.out]; rfl, _, rfl⟩
  · have hl1 : (((xs.length : Nat) : Int) != ((ys.length : Nat) : Int)) = true := by rw [bne_iff_ne]; omega
    have hf : decide (xs = ys) = false := decide_eq_false fun h => hl (by rw [h])
    have HF := Lib.hid hf
    clear hl hf
    go_enter Tryz.func19, Tryz.ntmps19
    go_wp2
    go_ret
    exact ⟨by rw [HF.out]; rfl, 0, rfl⟩
end Go.Proofs.YtikajmmeglookaaGreatDoor
/- Rows of limbs that a call has made itself. -/
namespace Go.Proofs.YtikajmmeglookaaGreatDoor
open Go.RowKit
set_option linter.unusedVariables false

theorem cast_shl (x s : Nat) : ((x : Nat) : Int) * 2 ^ s % 4294967296 = ((x * 2 ^ s % 4294967296 : Nat) : Int) := by
  rw [Int.natCast_emod, Int.natCast_mul, Int.natCast_pow]; rfl
theorem cast_shr (x s : Nat) : ((x : Nat) : Int) / 2 ^ s = ((x / 2 ^ s : Nat) : Int) := by
  rw [Int.natCast_ediv, Int.natCast_pow]; rfl
theorem u32_or_cast (a b : Nat) (ha : a < 4294967296) (c : Int) (hc : c = (b : Nat)) (hb : b < 4294967296) : bits .or .u32 (a : Int) c = ((a ||| b : Nat) : Int) := by
  subst hc; exact u32_or_nat a b ha hb
theorem low_step (xs : List Nat) (k : Nat) (hx : ∀ x ∈ xs, x < 4294967296) (hk : k < xs.length) (h2 : xs.length ≤ 2) :
    bits .or .u64 ((val (xs.take k) : Nat) : Int) (IntKind.u64.wrap (IntKind.u64.wrap ((lb xs k : Nat) : Int) * 2 ^ (32 * k))) = ((val (xs.take (k + 1)) : Nat) : Int) := by
  have hl := lb_lt hx k
  have hv := val_lt (xs.take k) (fun x h => hx x (List.mem_of_mem_take h))
  rw [List.length_take, Nat.min_eq_left (by omega)] at hv
  have e0 : IntKind.u64.wrap ((lb xs k : Nat) : Int) = ((lb xs k : Nat) : Int) := by rw [IntKind.wrap_u64]; omega
  have hk1 : k = 0 ∨ k = 1 := by omega
  have hb : lb xs k * 2 ^ (32 * k) < 18446744073709551616 := by
    rcases hk1 with rfl | rfl
    · simp only [Nat.mul_zero, Nat.pow_zero]; omega
    · simp only [Nat.mul_one, Nat.reducePow]; omega
  have e1 : IntKind.u64.wrap (((lb xs k : Nat) : Int) * 2 ^ (32 * k)) = ((lb xs k * 2 ^ (32 * k) : Nat) : Int) := by
    have e : ((lb xs k : Nat) : Int) * 2 ^ (32 * k) = ((lb xs k * 2 ^ (32 * k) : Nat) : Int) := by rw [Int.natCast_mul, Int.natCast_pow]; rfl
    rw [IntKind.wrap_u64, e]
    omega
  have hv2 : val (xs.take k) < 18446744073709551616 := by
    rcases hk1 with rfl | rfl
    · simp only [Nat.pow_zero] at hv; omega
    · simp only [Nat.reducePow] at hv; omega
  rw [e0, e1, u64_or_nat _ _ hv2 hb, or_eq_add _ _ _ (by rw [← pow32]; exact hv), val_take_succ xs k hk, pow32]
end Go.Proofs.YtikajmmeglookaaGreatDoor
/- walks -/
namespace Go.Proofs.YtikajmmeglookaaGreatDoor
open Go.RowKit
set_option linter.unusedVariables false
set_option maxHeartbeats 400000
set_option maxRecDepth 100000
theorem ret_int' {k : IntKind} {a b : Int} (h : a = b) : Ending.returned (.int k a) = .returned (.int k b) := by rw [h]

theorem info23 : (Tryz.prog.info? 23).map (fun i => (i.zero, i.size, i.bytes)) = some (some (.int .u32 0), 1, 4) := by kernel_rfl

theorem shl_calls (w : World) (v : Value) (n : Nat) (k : Int) (hk0 : 0 ≤ k) (hk1 : k ≤ 1000000000) (h : Un w v n) (hl : (limbs n).length ≤ 1000000000) :
    Calls Tryz.prog 42 #[v, .int .i64 k] w fun e w' => (∃ u, e = .returned u ∧ Un w' u (n * 2 ^ k.toNat)) ∧ Below w.heap.size w w' := by
  obtain ⟨A, c, rfl, ⟨hc, hm⟩, hx, hr⟩ := h
  obtain ⟨k, rfl⟩ := Int.eq_ofNat_of_zero_le hk0
  rcases Nat.eq_zero_or_pos n with h0 | h0
  · obtain rfl : n = 0 := h0
    have hz : limbs 0 = [] := limbs_zero
    have hu : Un w (.slice none 0 0) (0 * 2 ^ k) := by rw [Nat.zero_mul, Un, limbs_zero]; exact U.nil_ _ _ _
    have HU := Lib.hid hu
    rw [hz]
    clear hu hz hr hx hm hl hc
    go_enter Tryz.func42, Tryz.ntmps42
    go_wp2
    go_ret
    exact ⟨⟨_, rfl, HU.out⟩, Below.refl _ _⟩
  · have hlen : 0 < (limbs n).length := by rw [limbs_pos (by omega)]; simp
    obtain ⟨ad, rfl, hb, hcell⟩ := hr hlen
    have hne : (((limbs n).length : Int) == 0) = false := by rw [beq_eq_false_iff_ne]; omega
    obtain ⟨i0, hi, hz0, hz1, hz2⟩ := info_parts info23
    have hq : Hid (((k : Nat) : Int) / 32 = ((k / 32 : Nat) : Int)) := by rw [Hid]; omega
    generalize hxs : limbs n = xs at *
    have HX := Lib.hid hxs
    clear hxs hr
    have hkn : decide (((k : Nat) : Int) < 0) = false := by rw [decide_eq_false_iff_not]; omega
    go_enter Tryz.func42, Tryz.ntmps42
    go_wp2_with (at_make; refine wpList_make_full _ rfl _ _ 22 rfl w.heap.size 23 i0 (.int .u32 0) 1 Tryz.underlying22 hi hz0 hz1 _ _ _ _ (k / 32 + xs.length + 1) rfl rfl (by omega) (by omega) (by rw [hz2]; omega) (by unfold maxLen; omega) (Nat.le_refl _) ?_; intro w1 hown hgrow)
    have ho0 := Own.zeros hown
    have hB0 : Below w.heap.size w w1 := (Below.refl _ _).grown hgrow (Nat.le_refl _) (fun _ h => by cases h)
    clear hown hgrow
    go_loopw [29] (fun m wr => ∃ (i : Nat) (o : List Nat), i ≤ xs.length ∧ m = .int .i64 i ∧ Hid (ShlInv xs (k / 32) (k % 32) (k / 32 + xs.length + 1) i o) ∧ Own wr w.heap.size (.slice (some ⟨w.heap.size, 0, none⟩) o.length (k / 32 + xs.length + 1)) o ∧ Below w.heap.size w wr) (fun m _ => xs.length - (intOf m).toNat)
    case atStart => exact ⟨0, _, Nat.zero_le _, rfl, ShlInv.start _ _ _ _, ho0, hB0⟩
    case round =>
      obtain ⟨i, o, hik, rfl, HO, hown, hB⟩ := hrel
      have hoL := HO.out.len
      by_cases hlt : i < xs.length
      · have hc1 := (hB.cell (p := ad.add i) (by rw [addr_add_block]; exact hb)).trans (hcell i hlt)
        have hc2 := hown.cell (j := k / 32 + i) (by omega)
        have hc3 := hown.cell (j := k / 32 + i + 1) (by omega)
        have hf2 := hown.frozen (k / 32 + i)
        have hf3 := hown.frozen (k / 32 + i + 1)
        rw [hoL] at hown
        clear hoL
        have HF : Hid (bits .or .u32 (lb o (k / 32 + i) : Int) (((lb xs i : Nat) : Int) * 2 ^ (k % 32) % 4294967296) = ((lb o (k / 32 + i) ||| lb xs i * 2 ^ (k % 32) % 4294967296 : Nat) : Int)) :=
          u32_or_cast _ _ (lb_lt HO.out.lt _) _ (cast_shl _ _) (Nat.mod_lt _ (by decide))
        have HG : Hid (((lb xs i : Nat) : Int) / 2 ^ (32 - k % 32) = ((lb xs i / 2 ^ (32 - k % 32) : Nat) : Int)) := cast_shr _ _
        go_wp2
        go_region
        go_wp2
        rw [HF.out, HG.out]
        go_roundw
        case rel =>
          have hst := HO.out.step (Nat.mod_lt _ (by decide)) hx hlt rfl
          refine ⟨i + 1, _, by omega, by go_num, hst, ?_, ((hB.setCell (by simp) _).setCell (by simp) _).drew⟩
          have h1 := (Own.set_ (o := o) (by rw [HO.out.len]; exact hown) (k / 32 + i) (lb o (k / 32 + i) ||| lb xs i * 2 ^ (k % 32) % 4294967296))
          exact (Own.set_ h1 (k / 32 + i + 1) (lb xs i / 2 ^ (32 - k % 32))).drew
        case measure => simp [intOf]; omega
      · obtain rfl : i = xs.length := by omega
        have hu := hown.toU HO.out.lt (by omega)
        have hv := HO.out.done
        rw [← HX.out, val_limbs] at hv
        have HV := Lib.hid hv
        rw [hoL] at hu
        clear hv hoL hlt
        go_wp2_with fail
        refine (make_calls _ _ _ hu).mono ?_
        rintro e w2 ⟨⟨u, rfl, hu2⟩, rfl⟩
        have hu3 : Un wr u (n * 2 ^ ((k : Int)).toNat) := by rw [Un, Int.toNat_natCast, ← HV.out]; exact hu2
        clear hu2
        go_wp2
        go_ret
        exact ⟨⟨_, rfl, hu3⟩, hB⟩
end Go.Proofs.YtikajmmeglookaaGreatDoor
/- walks -/
namespace Go.Proofs.YtikajmmeglookaaGreatDoor
open Go.RowKit
set_option linter.unusedVariables false
set_option maxHeartbeats 400000
set_option maxRecDepth 100000

theorem bits_calls (w : World) (v : Value) (n : Nat) (h : Un w v n) (hl : (limbs n).length ≤ 1000000000) :
    Calls Tryz.prog 37 #[v] w fun e w' => e = .returned (.int .i64 (blen n : Nat)) ∧ w = w' := by
  obtain ⟨A, c, rfl, ⟨hc, hm⟩, hx, hr⟩ := h
  by_cases h0 : n = 0
  · subst h0
    have hz : limbs 0 = [] := limbs_zero
    rw [hz]
    clear hz hr hx hm hl hc
    have HF : Hid (blen 0 = 0) := rfl
    go_enter Tryz.func37, Tryz.ntmps37
    go_wp2
    go_ret
    exact ⟨by rw [HF.out]; rfl, rfl⟩
  · have HF := Lib.hid (blen_limbs n h0)
    have hlen : 0 < (limbs n).length := by rw [limbs_pos h0]; simp
    obtain ⟨ad, rfl, hb, hcell⟩ := hr hlen
    have hc1 := hcell ((limbs n).length - 1) (by omega)
    have hne : (((limbs n).length : Int) == 0) = false := by rw [beq_eq_false_iff_ne]; omega
    have hL := lb_lt hx ((limbs n).length - 1)
    have hB := blen_le_of_lt (k := 32) hL
    have HL := Lib.hid hL
    clear hL
    go_enter Tryz.func37, Tryz.ntmps37
    go_wp2_with (go_at_call 55; refine (len32_calls _ _ HL.out).mono ?_; rintro e w' ⟨rfl, rfl⟩)
    go_ret
    exact ⟨by rw [HF.out]; exact ret_int (by omega), rfl⟩

theorem nof_calls (w : World) (n : Nat) (hn : n < 18446744073709551616) :
    Calls Tryz.prog 61 #[.int .u64 n] w fun e w' => (∃ u, e = .returned u ∧ Un w' u n) ∧ Below w.heap.size w w' := by
  have HN := Lib.hid hn
  go_enter Tryz.func61, Tryz.ntmps61
  go_wp2_with fail
  have hn' := HN.out
  have hv : val [n % 4294967296, n / 4294967296] = n := by simp only [val]; omega
  have hu : U (w.alloc (Obj.cells #[Value.int IntKind.u32 ((n : Int) % 4294967296), Value.int IntKind.u32 ((n : Int) / 4294967296)] 23)) (.slice (some ⟨w.heap.size, 0, none⟩) 2 2) [n % 4294967296, n / 4294967296] := by
    refine ⟨_, 2, rfl, ⟨Nat.le_refl _, by simp⟩, by intro x hx; simp at hx; omega, fun _ => ⟨_, rfl, by simp, fun j hj => ?_⟩⟩
    have : j = 0 ∨ j = 1 := by simp at hj; omega
    rcases this with rfl | rfl
    · simp [lb, Addr.add]
    · simp [lb, Addr.add]
  clear hn' hn
  refine (make_calls _ _ _ hu).mono ?_
  rintro e w2 ⟨⟨u, rfl, hu2⟩, rfl⟩
  rw [hv] at hu2
  clear hv
  go_wp2
  go_ret
  exact ⟨⟨_, rfl, hu2⟩, (Below.refl _ _).alloc (Nat.le_refl _) _⟩
end Go.Proofs.YtikajmmeglookaaGreatDoor
/- walks -/
namespace Go.Proofs.YtikajmmeglookaaGreatDoor
open Go.RowKit
set_option linter.unusedVariables false
set_option maxHeartbeats 400000
set_option maxRecDepth 100000

theorem shr_calls (w : World) (v : Value) (n : Nat) (k : Int) (hk0 : 0 ≤ k) (hk1 : k ≤ 1000000000) (h : Un w v n) (hl : (limbs n).length ≤ 1000000000) :
    Calls Tryz.prog 38 #[v, .int .i64 k] w fun e w' => (∃ u, e = .returned u ∧ Un w' u (n / 2 ^ k.toNat)) ∧ Below w.heap.size w w' := by
  obtain ⟨A, c, rfl, ⟨hc, hm⟩, hx, hr⟩ := h
  obtain ⟨k, rfl⟩ := Int.eq_ofNat_of_zero_le hk0
  have hkn : decide (((k : Nat) : Int) < 0) = false := by rw [decide_eq_false_iff_not]; omega
  by_cases h0 : k / 32 < (limbs n).length
  · obtain ⟨ad, rfl, hb, hcell⟩ := hr (by omega)
    obtain ⟨i0, hi, hz0, hz1, hz2⟩ := info_parts info23
    generalize hxs : limbs n = xs at *
    have HX := Lib.hid hxs
    have hcap : decide (c = k / 32) = false := by rw [decide_eq_false_iff_not]; omega
    clear hxs hr
    go_enter Tryz.func38, Tryz.ntmps38
    go_wp2_with (at_make; refine wpList_make_full _ rfl _ _ 22 rfl w.heap.size 23 i0 (.int .u32 0) 1 Tryz.underlying22 hi hz0 hz1 _ _ _ _ (xs.length - k / 32) rfl rfl (by omega) (by omega) (by rw [hz2]; omega) (by unfold maxLen; omega) (Nat.le_refl _) ?_; intro w1 hown hgrow)
    have ho0 := Own.zeros hown
    have hB0 : Below w.heap.size w w1 := (Below.refl _ _).grown hgrow (Nat.le_refl _) (fun _ h => by cases h)
    have hys : Hid ((xs.drop (k / 32)).length = xs.length - k / 32) := by rw [Hid, List.length_drop]
    have hyl := Lib.hid (drop_lt (k / 32) hx)
    clear hown hgrow
    go_loopw [29] (fun m wr => ∃ (i : Nat) (o : List Nat), i ≤ xs.length - k / 32 ∧ m = .int .i64 i ∧ Hid (ShrInv (xs.drop (k / 32)) (k % 32) (xs.length - k / 32) i o) ∧ Own wr w.heap.size (.slice (some ⟨w.heap.size, 0, none⟩) o.length (xs.length - k / 32)) o ∧ Below w.heap.size w wr) (fun m _ => xs.length - k / 32 - (intOf m).toNat)
    case atStart => exact ⟨0, _, Nat.zero_le _, rfl, ShrInv.start _ _ _, ho0, hB0⟩
    case round =>
      obtain ⟨i, o, hik, rfl, HO, hown, hB⟩ := hrel
      have hoL := HO.out.len
      by_cases hlt : i < xs.length - k / 32
      · have hc1 : wr.cell? ((ad.add (k / 32)).add i) = some (.int .u32 ((lb (xs.drop (k / 32)) i : Nat) : Int)) := by
          rw [addr_add_add, lb_drop]
          exact (hB.cell (p := ad.add (k / 32 + i)) (by rw [addr_add_block]; exact hb)).trans (hcell _ (by omega))
        have hc2 := hown.cell (j := i) (by omega)
        have hf2 := hown.frozen i
        have hown' := hown
        rw [hoL] at hown
        have HG : Hid (((lb (xs.drop (k / 32)) i : Nat) : Int) / 2 ^ (k % 32) = ((lb (xs.drop (k / 32)) i / 2 ^ (k % 32) : Nat) : Int)) := cast_shr _ _
        by_cases hi0 : i = 0
        · subst hi0
          rw [addr_add_zero] at hc1
          clear hoL
          go_wp2
          rw [HG.out]
          go_roundw
          case rel =>
            have hst := HO.out.step0 (Nat.mod_lt _ (by decide)) hyl.out (by rw [hys.out]; omega) hys.out.symm
            exact ⟨1, _, by omega, by go_num, hst, Own.set_ hown' 0 _, hB.setCell (by simp) _⟩
          case measure => simp [intOf]; omega
        · have hc3 := hown'.cell (j := i - 1) (by omega)
          have hf3 := hown'.frozen (i - 1)
          have HF : Hid (bits .or .u32 (lb o (i - 1) : Int) (((lb (xs.drop (k / 32)) i : Nat) : Int) * 2 ^ (32 - k % 32) % 4294967296) = ((lb o (i - 1) ||| lb (xs.drop (k / 32)) i * 2 ^ (32 - k % 32) % 4294967296 : Nat) : Int)) :=
            u32_or_cast _ _ (lb_lt HO.out.lt _) _ (cast_shl _ _) (Nat.mod_lt _ (by decide))
          clear hoL
          go_wp2
          go_region
          go_wp2
          rw [HF.out, HG.out]
          go_roundw
          case rel =>
            have hst := HO.out.step (by omega) (Nat.mod_lt _ (by decide)) hyl.out (by rw [hys.out]; omega) hys.out.symm
            exact ⟨i + 1, _, by omega, by go_num, hst, (Own.set_ (Own.set_ hown' i _) (i - 1) _).drew, ((hB.setCell (by simp) _).setCell (by simp) _).drew⟩
          case measure => simp [intOf]; omega
      · have hu := hown.toU HO.out.lt (by omega)
        have hv := HO.out.done hx (by rw [hys.out]; omega)
        rw [← HX.out, val_limbs] at hv
        have HV := Lib.hid hv
        rw [hoL] at hu
        clear hv hoL
        go_wp2_with fail
        refine (make_calls _ _ _ hu).mono ?_
        rintro e w2 ⟨⟨u, rfl, hu2⟩, rfl⟩
        have hu3 : Un wr u (n / 2 ^ ((k : Int)).toNat) := by rw [Un, Int.toNat_natCast, ← HV.out]; exact hu2
        clear hu2
        go_wp2
        go_ret
        exact ⟨⟨_, rfl, hu3⟩, hB⟩
  · have hu : Un w (.slice none 0 0) (n / 2 ^ ((k : Int)).toNat) := by
      have := lt_pow_len n
      have h2 : 4294967296 ^ (limbs n).length ≤ 4294967296 ^ (k / 32) := Nat.pow_le_pow_right (by decide) (by omega)
      have h3 : 2 ^ (32 * (k / 32)) ≤ 2 ^ k := Nat.pow_le_pow_right (by decide) (by omega)
      rw [pow32 (k / 32)] at h2
      rw [Int.toNat_natCast, Nat.div_eq_of_lt (by omega), Un, limbs_zero]
      exact U.nil_ _ _ _
    have HU := Lib.hid hu
    clear hu
    go_enter Tryz.func38, Tryz.ntmps38
    go_wp2
    go_ret
    exact ⟨⟨_, rfl, HU.out⟩, Below.refl _ _⟩
end Go.Proofs.YtikajmmeglookaaGreatDoor
/- slices.Backward over limbs, and nat.Cmp. -/
namespace Go.Proofs.YtikajmmeglookaaGreatDoor
open Go.RowKit Go.Shelf
set_option linter.unusedVariables false
attribute [local go_sem] Oper.semAt_some

abbrev Ix (L : Nat) := { k : Nat // k < L }
abbrev encB (xs : List Nat) (p : Ix xs.length) : Array Value := #[.int .i64 (p.1 : Int), .int .u32 ((lb xs p.1 : Nat) : Int)]

set_option maxRecDepth 100000 in
set_option maxHeartbeats 2000000 in
theorem back1_in (l Bs : Nat) (ad : Addr) (c : Nat) (xs : List Nat) (hm : xs.length ≤ 9223372036854775807) (n₀ : Nat) (hb : ad.block < n₀) (J Jx : List (Ix xs.length) → World → Prop)
    (hY : ∀ pre x W, J pre W → pre.length < xs.length → YieldAt Fence.wide 2 Tryz.prog l (encB xs x) W fun e W' =>
      (e = .returned (.bool true) ∧ J (pre ++ [x]) W' ∧ Below n₀ W W') ∨ (e = .returned (.bool false) ∧ Jx (pre ++ [x]) W'))
    (W : World) (hBn : Bs < n₀) (hBs : W.cell? ⟨Bs, 0, none⟩ = some (.slice (some ad) xs.length c)) (hc : ∀ j, j < xs.length → W.cell? (ad.add j) = some (.int .u32 ((lb xs j : Nat) : Int))) (h0 : J [] W) :
    CallsIn Fence.wide 3 Tryz.prog 69 #[.func (.yield l) #[] #[], .pointer (some ⟨Bs, 0, none⟩)] W fun e W' => (∃ v, e = .returned v) ∧
      ((∃ ys, ys.map (·.1) = downs xs.length xs.length ∧ J ys W') ∨ (∃ pre, (∃ k, k ≤ xs.length ∧ pre.map (·.1) = downs xs.length k) ∧ Jx pre W')) := by
  refine callsIn_of_wp Tryz.func69 rfl trivial ?_ rfl
  simp only [Tryz.ntmps69, List.size_toArray, List.length_cons, List.length_nil, Nat.reduceAdd, Nat.reduceSub, Array.replicate_succ, Array.replicate_zero, List.push_toArray, List.append_toArray, List.nil_append, List.cons_append]
  gi_wp2
  gi_loopw [3] (fun i wr => ∃ (k : Nat) (pre : List (Ix xs.length)), k ≤ xs.length ∧ i = .int .i64 ((xs.length : Int) - 1 - k) ∧ Hid (pre.map (·.1) = downs xs.length k) ∧ J pre wr ∧ Below n₀ W wr)
    (fun i _ => (intOf i + 1).toNat)
  case atStart => exact ⟨0, [], Nat.zero_le _, by simp, rfl, h0, Below.refl _ _⟩
  case round =>
    obtain ⟨k, pre, hk, rfl, hp, hJs, hnx⟩ := hrel
    by_cases hlt : k < xs.length
    · have hcx := (hnx.cell (p := ad.add (xs.length - 1 - k)) (by rw [addr_add_block]; exact hb)).trans (hc (xs.length - 1 - k) (by omega))
      have hcb := (hnx.cell (p := ⟨Bs, 0, none⟩) hBn).trans hBs
      obtain ⟨fn, tmps, assign, body, hy, hR⟩ := hY pre ⟨xs.length - 1 - k, by omega⟩ wr hJs (by have := congrArg List.length hp.out; simp [downs] at this; omega)
      dsimp only [encB] at hy
      rw [show ((xs.length - 1 - k : Nat) : Int) = (xs.length : Int) - 1 - k by omega] at hy
      gi_wp2
      refine hR.mono ?_
      rintro e W3 (⟨rfl, hJ3, hk3⟩ | ⟨rfl, hJx3⟩)
      · gi_wp2
        go_roundw
        case rel => exact ⟨k + 1, _, by omega, by congr 1; push_cast; omega, by rw [Hid, List.map_append, hp.out, downs_succ]; rfl, hJ3, hnx.trans hk3⟩
        case measure => simp [intOf]; omega
      · gi_wp2
        refine bodyPost_ret (results_none rfl _ _ _) rfl ?_
        exact ⟨⟨_, rfl⟩, .inr ⟨_, ⟨k + 1, by omega, by rw [List.map_append, hp.out, downs_succ]; rfl⟩, hJx3⟩⟩
    · obtain rfl : k = xs.length := by omega
      gi_wp2
      go_end0
      exact ⟨⟨_, rfl⟩, .inl ⟨_, hp.out, hJs⟩⟩

set_option maxRecDepth 100000 in
set_option maxHeartbeats 1000000 in
theorem back1_nil_in (l Bs : Nat) (A : Option Addr) (c : Nat) {α : Type} (J : List α → World → Prop) (W : World) (hBs : W.cell? ⟨Bs, 0, none⟩ = some (.slice A 0 c)) (h0 : J [] W) :
    CallsIn Fence.wide 3 Tryz.prog 69 #[.func (.yield l) #[] #[], .pointer (some ⟨Bs, 0, none⟩)] W fun e W' => (∃ v, e = .returned v) ∧ J [] W' := by
  refine callsIn_of_wp Tryz.func69 rfl trivial ?_ rfl
  simp only [Tryz.ntmps69, List.size_toArray, List.length_cons, List.length_nil, Nat.reduceAdd, Nat.reduceSub, Array.replicate_succ, Array.replicate_zero, List.push_toArray, List.append_toArray, List.nil_append, List.cons_append]
  gi_wp2
  gi_loopw [3] (fun i wr => i = .int .i64 (-1) ∧ J [] wr) (fun _ _ => 0)
  case atStart => exact ⟨rfl, h0⟩
  case round =>
    obtain ⟨rfl, hJs⟩ := hrel
    gi_wp2
    go_end0
    exact ⟨⟨_, rfl⟩, hJs⟩

set_option maxHeartbeats 1000000 in
/-- slices.Backward: the slice is boxed; the function value has captured the box. -/
theorem back_in (a : Option Addr) (len cap : Nat) (w : World) :
    CallsIn Fence.wide 3 Tryz.prog 53 #[.slice a len cap] w fun e w' => e = .returned (.func (.func 69) #[] #[.pointer (some ⟨w.heap.size, 0, none⟩)]) ∧ w' = w.alloc (.cells #[.slice a len cap] 22) := by
  refine callsIn_of_wp Tryz.func53 rfl trivial ?_ rfl
  simp only [Tryz.ntmps53, List.size_toArray, List.length_cons, List.length_nil, Nat.reduceAdd, Nat.reduceSub, Array.replicate_succ, Array.replicate_zero, List.push_toArray, List.append_toArray, List.nil_append, List.cons_append]
  gi_wp2
  go_ret
  exact ⟨rfl, rfl⟩

/-- Its contract: all of the limbs, the last one first; or the first few of these. -/
theorem back_stops (Bs : Nat) (v : Value) (xs : List Nat) (w : World) (hBs : Bs < w.heap.size) (hc : w.cell? ⟨Bs, 0, none⟩ = some v) (hU : U w v xs) :
    SeqStopsK Fence.wide 3 Tryz.prog 69 #[.pointer (some ⟨Bs, 0, none⟩)] (encB xs) (Below w.heap.size) (fun ys => ys.map (·.1) = downs xs.length xs.length)
      (fun pre => ∃ k, k ≤ xs.length ∧ pre.map (·.1) = downs xs.length k) xs.length w := fun l J Jx W hW _ _ hY h0 => by
  have hc' := (hW.cell (p := ⟨Bs, 0, none⟩) hBs).trans hc
  obtain ⟨A, c, rfl, ⟨h1, h2⟩, hx, hr⟩ := hU
  rcases Nat.eq_zero_or_pos xs.length with h3 | h3
  · rw [h3] at hc'
    refine (back1_nil_in l Bs A c J W hc' h0).mono fun e W' ⟨he, hj⟩ => ⟨he, .inl ⟨[], by rw [h3]; rfl, hj⟩⟩
  · obtain ⟨ad, rfl, hb, hcell⟩ := hr h3
    exact back1_in l Bs ad c xs h2 w.heap.size hb J Jx hY W hBs hc' (fun j hj => (hW.cell (p := ad.add j) (by rw [addr_add_block]; exact hb)).trans (hcell j hj)) h0
end Go.Proofs.YtikajmmeglookaaGreatDoor
