/- nat.Sub. -/
import Derived.Test.YtigdflfhepelaaaGreatDoorPe
import Derived.Laws.Externs
import Derived.Shelf.Spec.BitsCarry
import Derived.Laws.CopyOwn

namespace Go.Proofs.YtigdflfhepelaaaGreatDoor
open Go.RowKit Go.Shelf
set_option linter.unusedVariables false
attribute [local go_sem] Oper.semAt_some
attribute [local go_sem ↓] app_shut
attribute [local go_sem] run_append_tok

set_option maxRecDepth 100000 in
set_option maxHeartbeats 4000000 in
theorem sub_ge (w : World) (v u : Value) (n m : Nat) (xs ys : List Nat) (hxs : limbs n = xs) (hys : limbs m = ys) (h : U w v xs) (g : U w u ys) (hl : ys.length ≤ xs.length) (hle : m ≤ n) (hm : xs.length ≤ 1000000000) :
    CallsIn Fence.wide 4 Tryz.prog 99 #[v, u] w fun e w' => (∃ z, e = .returned (.tuple #[z, .bool true]) ∧ Un w' z (n - m)) ∧ Below w.heap.size w w' := by
  obtain ⟨A, c, rfl, ⟨hc, _⟩, hx, hr⟩ := id h
  obtain ⟨A2, c2, rfl, ⟨hc2, _⟩, hx2, hr2⟩ := id g
  clear hr hr2
  have hcm : decide (cmpI n m < 0) = false := by
    rw [decide_eq_false_iff_not]
    unfold cmpI
    split
    · omega
    · split <;> omega
  have hvx : val xs = n := by rw [← hxs, val_limbs]
  have hvy : val ys = m := by rw [← hys, val_limbs]
  have hcall0 := cmp_calls w _ _ n m (by rw [Un, hxs]; exact h) (by rw [Un, hys]; exact g)
  have HXS := Lib.hid hvx
  have HYS := Lib.hid hvy
  have HLE := Lib.hid hle
  have HL := Lib.hid hl
  clear hl hle hvx hvy hxs hys
  obtain ⟨i0, hi, hz0, hz1, hz2⟩ := info_parts info46
  refine callsIn_of_wp_marks Tryz.func99 rfl trivial ?_ rfl
  simp only [Tryz.ntmps99, List.size_toArray, List.length_cons, List.length_nil, Nat.reduceAdd, Nat.reduceSub, Array.replicate_succ, Array.replicate_zero, List.push_toArray, List.append_toArray, List.nil_append, List.cons_append]
  gi_wp2_with (fail)
  refine ⟨trivial, ?_⟩
  refine (callsIn_wide.2 hcall0).mono ?_
  rintro e wc ⟨rfl, hBc⟩
  have h' := h.below hBc
  have g' := g.below hBc
  gi_wp2_with (first | (gi_at_make; refine wpListIn_make_own _ rfl _ _ 22 rfl wc.heap.size 46 i0 (.int .u32 0) 1 Tryz.underlying22 hi hz0 hz1 _ _ _ xs.length rfl rfl (by omega) (by rw [hz2]; omega) (by unfold maxLen; omega) (Nat.le_refl _) ?_; intro w1 hown hgrow) | (refine ⟨trivial, ?_⟩; gi_at_call 114; refine (callsIn_wide.2 (taker_calls _)).mono ?_; rintro e w' ⟨rfl, rfl⟩) | (refine ⟨trivial, ?_⟩; gi_at_call 62; refine (callsIn_wide.2 (pairs_calls _ _ _ _ _ _ _)).mono ?_; rintro e w' ⟨rfl, rfl⟩))
  obtain ⟨B, hB⟩ : ∃ B, w1.heap.size = B := ⟨_, rfl⟩
  obtain ⟨W0, hW0⟩ : ∃ W0, (((((w1.alloc (.cells #[.slice (some ⟨wc.heap.size, 0, none⟩) 0 xs.length] 22)).alloc (.cells #[.int .u32 0] 46)).alloc (.cells #[.func (.func 140) #[] #[.pointer (some ⟨w1.heap.size + 1, 0, none⟩)]] 91)).alloc (.cells #[.slice A xs.length c] 22)).alloc (.cells #[.slice A2 ys.length c2] 22)) = W0 := ⟨_, rfl⟩
  have hB1 : Below wc.heap.size wc w1 := (Below.refl _ _).grown hgrow (Nat.le_refl _) (fun _ h => by cases h)
  have hB1s := hB1.size
  have hB0 : Below wc.heap.size wc W0 := by
    rw [← hW0]
    exact ((((hB1.alloc (by omega) _).alloc (by simp; omega) _).alloc (by simp; omega) _).alloc (by simp; omega) _).alloc (by simp; omega) _
  have hsz : W0.heap.size = B + 5 := by rw [← hW0, ← hB]; simp
  have b0 : Boxed W0 B 22 (.slice (some ⟨wc.heap.size, 0, none⟩) 0 xs.length) := by
    rw [← hW0, ← hB]; exact ((((Boxed.new w1 22 _).alloc _).alloc _).alloc _).alloc _
  have b1 : Boxed W0 (B + 1) 46 (.int .u32 0) := by
    rw [← hW0, ← hB]
    have := ((((Boxed.new (w1.alloc (.cells #[.slice (some ⟨wc.heap.size, 0, none⟩) 0 xs.length] 22)) 46 (.int .u32 0)).alloc (.cells #[.func (.func 140) #[] #[.pointer (some ⟨w1.heap.size + 1, 0, none⟩)]] 91)).alloc (.cells #[.slice A xs.length c] 22)).alloc (.cells #[.slice A2 ys.length c2] 22))
    simpa using this
  have b2 : Boxed W0 (B + 2) 91 (.func (.func 140) #[] #[.pointer (some ⟨B + 1, 0, none⟩)]) := by
    rw [← hW0, ← hB]
    have := (((Boxed.new ((w1.alloc (.cells #[.slice (some ⟨wc.heap.size, 0, none⟩) 0 xs.length] 22)).alloc (.cells #[.int .u32 0] 46)) 91 (.func (.func 140) #[] #[.pointer (some ⟨w1.heap.size + 1, 0, none⟩)])).alloc (.cells #[.slice A xs.length c] 22)).alloc (.cells #[.slice A2 ys.length c2] 22))
    simpa using this
  have b3 : Boxed W0 (B + 3) 22 (.slice A xs.length c) := by
    rw [← hW0, ← hB]
    have := ((Boxed.new (((w1.alloc (.cells #[.slice (some ⟨wc.heap.size, 0, none⟩) 0 xs.length] 22)).alloc (.cells #[.int .u32 0] 46)).alloc (.cells #[.func (.func 140) #[] #[.pointer (some ⟨w1.heap.size + 1, 0, none⟩)]] 91)) 22 (.slice A xs.length c)).alloc (.cells #[.slice A2 ys.length c2] 22))
    simpa using this
  have b4 : Boxed W0 (B + 4) 22 (.slice A2 ys.length c2) := by
    rw [← hW0, ← hB]
    have := (Boxed.new ((((w1.alloc (.cells #[.slice (some ⟨wc.heap.size, 0, none⟩) 0 xs.length] 22)).alloc (.cells #[.int .u32 0] 46)).alloc (.cells #[.func (.func 140) #[] #[.pointer (some ⟨w1.heap.size + 1, 0, none⟩)]] 91)).alloc (.cells #[.slice A xs.length c] 22)) 22 (.slice A2 ys.length c2))
    simpa using this
  have hown0 : Own W0 wc.heap.size (.slice (some ⟨wc.heap.size, 0, none⟩) ([] : List Nat).length xs.length) [] := by
    rw [← hW0]; exact ((((World.ownsRow.alloc hown _).alloc _).alloc _).alloc _).alloc _
  have hS0 : SumAt wc B wc.heap.size xs.length 140 [] 0 W0 := ⟨b0, hown0, b1, b2, hB0, by omega⟩
  have hBw : wc.heap.size < B := by have := (World.ownsRow.lt hown wc.heap.size rfl).2; omega
  have hWr : Boxed W0 B 22 (.slice (some ⟨wc.heap.size, 0, none⟩) 0 xs.length) := b0
  rw [hW0]
  rw [hB]
  clear hW0 b0 b1 b2 hown0 hown hgrow hB1 hB1s hWr hB
  refine wpIn_rangeFunc_ownG rfl (by omega) (gf := 85) (lb := #[.pointer (some ⟨B + 4, 0, none⟩), .pointer (some ⟨B + 3, 0, none⟩)]) rfl trivial (enters_of Tryz.func85 (by kernel_rfl) rfl)
    (pairs_stops (B + 3) (B + 4) _ _ xs ys wc W0 hB0 HL.out (by omega) (by omega) b3 b4 h' g') KpP.trans (kpP_b (by omega) (by omega) (by omega)) (Below.refl _ _) (fun _ => rfl)
    (fun pre W => ∃ o cy, Hid (SubInv pre o cy) ∧ SumAt wc B wc.heap.size xs.length 140 o cy W)
    (fun c pre W => False)
    (fun s X Y row hs hg hr => by obtain ⟨o, cy, ha, hs⟩ := hs; exact ⟨o, cy, ha, hs.grown hg (by omega) hr⟩)
    (fun c s X Y row hs hg hr => hs)
    ⟨[], 0, SubInv.start, hS0⟩
    (fun x => { tmps := #[.slice A xs.length c, .slice A2 ys.length c2, undef, undef, .slice none 0 0, .bool false, .pointer (some ⟨B, 0, none⟩), .pointer (some ⟨B + 1 + 1, 0, none⟩), .int .u32 (x.1.1 : Int), .int .u32 (x.1.2 : Int), .slice A xs.length c, .slice A2 ys.length c2, .int .i64 (cmpI n m), .bool false, .slice A xs.length c, .int .i64 (xs.length : Int), .slice (some ⟨wc.heap.size, 0, none⟩) 0 xs.length, .func (.func 140) #[] #[.pointer (some ⟨B + 1, 0, none⟩)], .slice A xs.length c, .slice A2 ys.length c2, .func (.func 85) #[] #[.pointer (some ⟨B + 1 + 1 + 1 + 1, 0, none⟩), .pointer (some ⟨B + 1 + 1 + 1, 0, none⟩)], .int .u32 (x.1.1 : Int), .int .u32 (x.1.2 : Int), undef, undef, undef, undef, undef, undef, undef, undef, undef], defers := [] }) ?assign ?body ?done ?stop
  case assign =>
    intro l x W K hK
    gi_wp2
    exact hK
  case body =>
    rintro l pre x W ⟨o, cy, HA, hS⟩ hpl
    have hb0 := hS.box.cell
    have hf0 := hS.box.frozen
    have hb1 := hS.car.cell
    have hf1 := hS.car.frozen
    have hb2 := hS.fnc.cell
    have hmx : Tryz.prog.follows .mixedOrders = true := by kernel_rfl
    have hcy := HA.out.carry
    have hlen := HA.out.len
    have hol : o.length + 1 ≤ xs.length := by omega
    have HA2 := Lib.hid (HA.out.step x)
    have hdlt := subD_lt x.1.1 x.1.2 cy
    obtain ⟨d, hd⟩ : ∃ d, subD x.1.1 x.1.2 cy = d := ⟨_, rfl⟩
    obtain ⟨cz, hcz⟩ : ∃ d, subC x.1.1 x.1.2 cy = d := ⟨_, rfl⟩
    have hcall := taker1_calls W.drew x.1.1 x.1.2 cy (B + 1) x.2.1 x.2.2 hcy hb1 hf1
    rw [hd, hcz] at hcall HA2
    obtain ⟨W1, hW1⟩ : ∃ W1, W.drew.setCell ⟨B + 1, 0, none⟩ (.int .u32 (cz : Nat)) = W1 := ⟨_, rfl⟩
    rw [hW1] at hcall
    have hsz1 : W1.heap.size = W.heap.size := by rw [← hW1]; simp [World.setCell]
    have hg1 : W.grownBy W1 (some (B + 1)) := by rw [← hW1]; have hq := grownBy_setCell' W.drew (B + 1) (.int .u32 (cz : Nat)); exact ⟨hq.os, hq.tape, hq.output, hq.size, hq.block⟩
    have hown1 : (W1.alloc (.cells #[.int .u32 (d : Nat)] 46)).ownsRow wc.heap.size 46 1 (.slice (some ⟨wc.heap.size, 0, none⟩) o.length xs.length) o.length (L32 o) :=
      World.ownsRow.alloc (World.ownsRow.kept hS.own hg1 (.inr (by simp [Value.ownBlock]; omega))) _
    have hx0 := hS.box.kept hg1 (by intro e; injection e with e; omega)
    have hx2 := hS.fnc.kept hg1 (by intro e; injection e with e; omega)
    have hx1 : Boxed W1 (B + 1) 46 (.int .u32 (cz : Nat)) := by rw [← hW1]; exact Boxed.set (W := W.drew) _ hS.car
    have hxb : Below wc.heap.size wc W1 := hS.bel.grown hg1 hS.bel.size (fun k e => by injection e with e; omega)
    have hxW : Below wc.heap.size W W1 := (Below.refl _ W).grown hg1 hS.bel.size (fun k e => by injection e with e; omega)
    have hko : KeepsOthers W W1 := by rw [← hW1]; exact (KeepsOthers.drew W).trans (KeepsOthers.setCell _ _ _)
    obtain ⟨W2, hrun, hown2, hgrow2⟩ := run_append_fits (P := Tryz.prog) (W1.alloc (.cells #[.int .u32 (d : Nat)] 46)) wc.heap.size 22 22 46 i0 1 Tryz.underlying22 hi hz1 wc.heap.size o.length xs.length (L32 o) hown1
      ⟨W1.heap.size, 0, none⟩ 1 1 [.int .u32 (d : Nat)] rfl (by intro j u hj; cases j with | zero => simp at hj; subst hj; simp [Addr.add] | succ j => simp at hj) (by simp [Value.oneCell']) hol
    have hy0 := (hx0.alloc (.cells #[.int .u32 (d : Nat)] 46)).kept hgrow2 (by intro e; injection e with e; omega)
    have hy1 := (hx1.alloc (.cells #[.int .u32 (d : Nat)] 46)).kept hgrow2 (by intro e; injection e with e; omega)
    have hy2 := (hx2.alloc (.cells #[.int .u32 (d : Nat)] 46)).kept hgrow2 (by intro e; injection e with e; omega)
    have hyb : Below wc.heap.size wc W2 := (hxb.alloc hxb.size _).grown hgrow2 (by have := hxb.size; rw [World.size_alloc]; omega) (fun k e => by injection e with e; omega)
    have hyW : Below wc.heap.size W W2 := (hxW.alloc hxb.size _).grown hgrow2 (by have := hxb.size; rw [World.size_alloc]; omega) (fun k e => by injection e with e; omega)
    have hkeep : ∀ k, k < W.heap.size → k ≠ B + 1 → k ≠ wc.heap.size → W2.heap[k]? = W.heap[k]? := fun k h1 h2 h3 =>
      ((hgrow2.block k (by rw [World.size_alloc]; omega) (fun e => h3 (by injection e))).trans (Below.heap_alloc _ _ k (by omega))).trans (hg1.block k h1 (fun e => h2 (by injection e)))
    have hko2 : KeepsOthers W W2 := (hko.trans (KeepsOthers.alloc _ _)).trans (KeepsOthers.of_grownBy hgrow2 fun j ob ej hj => by
      cases ej
      rcases hown1.2 with ⟨h', _⟩ | ⟨g', cap', cur, h', _, hg, _⟩
      · cases h'
      · cases h'; rw [hg] at hj; cases hj; rfl)
    have hyc0 := hy0.cell
    have hxc0 := hx0.cell
    have hxc1 := (hx0.alloc (.cells #[.int .u32 (d : Nat)] 46)).cell
    have hyf0 := hy0.frozen
    have HW1 := Lib.hid hsz1
    obtain ⟨ht1, ht2, ht3⟩ := app_tok hrun
    clear hrun hW1 hsz1 hd hcz hg1 hlen hdlt
    gi_wp2
    gi_region_with_o ((refine ⟨trivial, ?_⟩; gi_at_call 140; refine (CallsIn.inRound l (callsIn_wide.2 hcall)).mono ?_; rintro e w' ⟨rfl, rfl⟩))
    all_goals gi_wp2
    all_goals
      have hsiz := hS.siz
      have hW2s := hko2.size
      have hset := grownBy_setCell' W2 B (.slice (some ⟨wc.heap.size, 0, none⟩) (o.length + 1) xs.length)
      have hrow : (W2.setCell ⟨B, 0, none⟩ (.slice (some ⟨wc.heap.size, 0, none⟩) (o.length + 1) xs.length)).ownsRow wc.heap.size 46 1 (.slice (some ⟨wc.heap.size, 0, none⟩) (o.length + 1) xs.length) (o.length + 1) (L32 o ++ [.int .u32 (d : Nat)]) :=
        World.ownsRow.kept hown2 hset (.inr (by simp only [Value.ownBlock]; intro e; injection e with e; omega))
      refine ⟨(hko2.trans (KeepsOthers.setCell _ _ _)).from _, ⟨hyW.setCell (p := ⟨B, 0, none⟩) (Nat.le_of_lt hBw) _, ?_, ?_⟩, o ++ [d], cz, HA2.out, ?_, ?_, hy1.other (by omega) _, hy2.other (by omega) _, hyb.setCell (p := ⟨B, 0, none⟩) (Nat.le_of_lt hBw) _, ?_⟩
      · exact (hset.block (B + 3) (by omega) (fun e => by injection e with e; omega)).trans (hkeep (B + 3) (by omega) (by omega) (by omega))
      · exact (hset.block (B + 4) (by omega) (fun e => by injection e with e; omega)).trans (hkeep (B + 4) (by omega) (by omega) (by omega))
      · rw [List.length_append]; exact hy0.set _
      · unfold Own; rw [L32_append, List.length_append]; exact hrow
      · have := hset.size; omega
  case done =>
    rintro D l W hD hl ⟨o, cy, HA, hS⟩ hK
    have hb0 := hS.box.cell
    have hdone := HA.out.done hl HL.out (by rw [HXS.out, HYS.out]; exact HLE.out)
    rw [HXS.out, HYS.out] at hdone
    have hlen := HA.out.len
    have hol : o.length = xs.length := by rw [hlen]; have := congrArg List.length hl; simpa [pairsL] using this
    have hu : U W (.slice (some ⟨wc.heap.size, 0, none⟩) o.length xs.length) o := Own.toU hS.own HA.out.lt (by omega)
    have HD := Lib.hid hdone
    have HB := Lib.hid (hBc.trans (hS.bel.mono hBc.size))
    clear hdone hol hl hlen
    gi_wp2_with (refine ⟨trivial, ?_⟩; gi_at_call 63; refine (callsIn_wide.2 (make_calls _ _ _ hu)).mono ?_; rintro e w' ⟨⟨z, rfl, hz⟩, rfl⟩)
    rw [HD.out] at hz
    refine ⟨by simp, .inl ⟨_, _, rfl, run_takeDeferred hK, ?_⟩⟩
    refine ⟨.tuple #[z, .bool true], by simp [results, Tryz.f99, go_sem], ⟨_, rfl, hz.put hK rfl _⟩, HB.out.trans (belowK_b (w := w) (Nat.le_refl _) _ D _ _ (by have := hBc.size; omega) hK rfl rfl)⟩
  case stop =>
    rintro D cc pre W hD _ h _
    exact h.elim

theorem nsub_calls (w : World) (v u : Value) (n m : Nat) (h : Un w v n) (g : Un w u m) (hm : (limbs n).length ≤ 1000000000) :
    Calls Tryz.prog 99 #[v, u] w fun e w' => (∃ z, e = .returned (.tuple #[z, .bool (decide (m ≤ n))]) ∧ Un w' z (n - m)) ∧ Below w.heap.size w w' := by
  by_cases hle : m ≤ n
  · rw [decide_eq_true hle]
    exact callsIn_wide.1 (sub_ge w v u n m _ _ rfl rfl h g (len_mono hle) hle hm)
  · rw [decide_eq_false hle]
    have hcm : decide (cmpI n m < 0) = true := by rw [cmpI_lt (by omega)]; rfl
    have hz : Hid (n - m = 0) := by rw [Hid]; omega
    have hcall0 := cmp_calls w _ _ n m h g
    clear hle
    go_enter Tryz.func99, Tryz.ntmps99
    go_wp2_with (go_at_call 42; refine hcall0.mono ?_; rintro e wc ⟨rfl, hBc⟩)
    go_ret2
    exact ⟨⟨_, rfl, by rw [hz.out, Un, limbs_zero]; exact U.nil_ _ _ _⟩, by assumption⟩
end Go.Proofs.YtigdflfhepelaaaGreatDoor
/- The document's own Make and Made. -/
namespace Go.Proofs.YtigdflfhepelaaaGreatDoor
open Go.RowKit
set_option linter.unusedVariables false
set_option maxHeartbeats 400000
set_option maxRecDepth 100000
attribute [local go_sem ↓] app_shut
attribute [local go_sem] run_append_tok

end Go.Proofs.YtigdflfhepelaaaGreatDoor
/- The document's own Made. -/
namespace Go.Proofs.YtigdflfhepelaaaGreatDoor
open Go.RowKit
set_option linter.unusedVariables false
set_option maxHeartbeats 400000
set_option maxRecDepth 100000

/-- The number that the first k limbs are. -/
def cutN (xs : List Nat) (k : Nat) : Nat := val (xs.take k)
theorem cutN_len (xs : List Nat) (k : Nat) (hx : ∀ x ∈ xs, x < 4294967296) : (limbs (cutN xs k)).length ≤ k := by
  apply len_le_of_lt
  have := val_lt (xs.take k) (fun x h => hx x (List.mem_of_mem_take h))
  refine Nat.lt_of_lt_of_le this (Nat.pow_le_pow_right (by decide) ?_)
  rw [List.length_take]; omega

end Go.Proofs.YtigdflfhepelaaaGreatDoor
/- The contracts in one form: whatever lay lies as it lay; the results as the callers ask for them. -/
namespace Go.Proofs.YtigdflfhepelaaaGreatDoor
open Go.RowKit
set_option linter.unusedVariables false

theorem Un.alloc {w : World} {v : Value} {n : Nat} (h : Un w v n) (o : Obj) : Un (w.alloc o) v n := U.alloc h o
theorem U.un {w : World} {v : Value} {xs : List Nat} {n : Nat} (h : U w v xs) (e : limbs n = xs) : Un w v n := by rw [Un, e]; exact h
theorem lim {n : Nat} (xs : List Nat) (hv : val xs = n) (hx : ∀ x ∈ xs, x < 4294967296) (hl : xs ≠ [] → xs[xs.length - 1]?.getD 0 ≠ 0) : limbs n = xs := by rw [← hv]; exact limbs_val xs hx hl
theorem Un_nil (w : World) : Un w (.slice none 0 0) 0 := by rw [Un, limbs_zero]; exact U.nil_ _ _ _

theorem make_B (w : World) (v : Value) (xs : List Nat) (h : U w v xs) (n : Nat) (hn : val xs = n) :
    Calls Tryz.prog 63 #[v] w fun e w' => ∃ u, e = .returned u ∧ Un w' u n ∧ Ext w w' :=
  (make_calls w v xs h).mono fun e w' ⟨⟨u, he, hu⟩, hw⟩ => ⟨u, he, by rw [← hw, Un, ← hn]; exact hu, by rw [← hw]; exact Ext.refl w⟩
theorem of_B (w : World) (k : Int) (h0 : 0 ≤ k) (h1 : k < 18446744073709551616) (n : Nat) (hn : k.toNat = n) :
    Calls Tryz.prog 60 #[.int .u64 k] w fun e w' => ∃ u, e = .returned u ∧ Un w' u n ∧ Ext w w' := by
  subst hn
  have := nof_calls w k.toNat (by omega)
  rw [show ((k.toNat : Nat) : Int) = k by omega] at this
  exact this.mono fun e w' ⟨⟨u, he, hu⟩, hb⟩ => ⟨u, he, hu, hb⟩
theorem bits_B (w : World) (v : Value) (n : Nat) (h : Un w v n) (hl : (limbs n).length ≤ 1000000000) (k : Int) (hk : ((blen n : Nat) : Int) = k) :
    Calls Tryz.prog 69 #[v] w fun e w' => e = .returned (.int .i64 k) ∧ Ext w w' :=
  (bits_calls w v n h hl).mono fun e w' ⟨he, hw⟩ => ⟨by rw [he, hk], by rw [← hw]; exact Ext.refl w⟩
theorem cmp_B (w : World) (v u : Value) (n m : Nat) (h : Un w v n) (g : Un w u m) (k : Int) (hk : cmpI n m = k) :
    Calls Tryz.prog 42 #[v, u] w fun e w' => e = .returned (.int .i64 k) ∧ Ext w w' :=
  (cmp_calls w v u n m h g).mono fun e w' ⟨he, hw⟩ => ⟨by rw [he, hk], hw⟩
theorem add_B (w : World) (v u : Value) (n m : Nat) (h : Un w v n) (g : Un w u m) (hm : (limbs n).length ≤ 1000000000) (hm2 : (limbs m).length ≤ 1000000000) (s : Nat) (hs : n + m = s) :
    Calls Tryz.prog 46 #[v, u] w fun e w' => ∃ z, e = .returned z ∧ Un w' z s ∧ Ext w w' := by
  subst hs
  have := nadd_calls w v u _ _ h g hm hm2
  rw [val_limbs, val_limbs] at this
  exact this.mono fun e w' ⟨⟨z, he, hz⟩, hb⟩ => ⟨z, he, hz, hb⟩
theorem sub_B (w : World) (v u : Value) (n m : Nat) (h : Un w v n) (g : Un w u m) (hm : (limbs n).length ≤ 1000000000) (b : Bool) (hb : decide (m ≤ n) = b) (d : Nat) (hd : n - m = d) :
    Calls Tryz.prog 99 #[v, u] w fun e w' => ∃ z, e = .returned (.tuple #[z, .bool b]) ∧ Un w' z d ∧ Ext w w' := by
  subst hd hb
  exact (nsub_calls w v u n m h g hm).mono fun e w' ⟨⟨z, he, hz⟩, hb⟩ => ⟨z, he, hz, hb⟩
theorem shl_B (w : World) (v : Value) (n : Nat) (k : Int) (h : Un w v n) (hk0 : 0 ≤ k) (hk1 : k ≤ 1000000000) (hl : (limbs n).length ≤ 1000000000) (s : Nat) (hs : n * 2 ^ k.toNat = s) :
    Calls Tryz.prog 70 #[v, .int .i64 k] w fun e w' => ∃ u, e = .returned u ∧ Un w' u s ∧ Ext w w' := by
  subst hs
  exact (shl_calls w v n k hk0 hk1 h hl).mono fun e w' ⟨⟨u, he, hu⟩, hb⟩ => ⟨u, he, hu, hb⟩
theorem shr_B (w : World) (v : Value) (n : Nat) (k : Int) (h : Un w v n) (hk0 : 0 ≤ k) (hk1 : k ≤ 1000000000) (hl : (limbs n).length ≤ 1000000000) (s : Nat) (hs : n / 2 ^ k.toNat = s) :
    Calls Tryz.prog 75 #[v, .int .i64 k] w fun e w' => ∃ u, e = .returned u ∧ Un w' u s ∧ Ext w w' := by
  subst hs
  exact (shr_calls w v n k hk0 hk1 h hl).mono fun e w' ⟨⟨u, he, hu⟩, hb⟩ => ⟨u, he, hu, hb⟩
end Go.Proofs.YtigdflfhepelaaaGreatDoor
/- Slices of 64-bit words: read, and made by the call itself. -/
namespace Go.Proofs.YtigdflfhepelaaaGreatDoor
open Go.RowKit
set_option linter.unusedVariables false
set_option maxHeartbeats 400000

theorem info64 : (Tryz.prog.info? 39).map (fun i => (i.zero, i.size, i.bytes)) = some (some (.int .u64 0), 1, 8) := by kernel_rfl

/-- v is a slice of words whose first cells are xs, none of them in block g. -/
def V (g : Nat) (w : World) (v : Value) (xs : List Nat) : Prop :=
  ∃ (A : Option Addr) (c : Nat), v = .slice A xs.length c ∧ (xs.length ≤ c ∧ xs.length ≤ 9223372036854775807) ∧ (∀ x ∈ xs, x < 18446744073709551616) ∧
    (0 < xs.length → ∃ ad, A = some ad ∧ ad.block < w.heap.size ∧ ad.block ≠ g ∧ ∀ j, j < xs.length → w.cell? (ad.add j) = some (.int .u64 (lb xs j : Nat)))
theorem V.lim {g : Nat} {w : World} {v : Value} {xs : List Nat} (h : V g w v xs) : ∀ x ∈ xs, x < 18446744073709551616 := by
  obtain ⟨A, c, rfl, hc, hx, hr⟩ := h; exact hx
theorem V.keep {g : Nat} {w w' : World} {v : Value} {xs : List Nat} (h : V g w v xs) (hs : w.heap.size ≤ w'.heap.size) (hk : ∀ p : Addr, p.block < w.heap.size → p.block ≠ g → w'.cell? p = w.cell? p) : V g w' v xs := by
  obtain ⟨A, c, rfl, hc, hx, hr⟩ := h
  refine ⟨A, c, rfl, hc, hx, fun h0 => ?_⟩
  obtain ⟨ad, hA, hb, hne, hcell⟩ := hr h0
  exact ⟨ad, hA, by omega, hne, fun j hj => (hk _ (by rw [addr_add_block]; exact hb) (by rw [addr_add_block]; exact hne)).trans (hcell j hj)⟩
theorem V.below {g : Nat} {w w' : World} {v : Value} {xs : List Nat} (h : V g w v xs) (hb : Ext w w') : V g w' v xs := h.keep hb.size fun _ hp _ => hb.cell hp
theorem V.but {g : Nat} {w w' : World} {v : Value} {xs : List Nat} (h : V g w v xs) (hb : But g w w') : V g w' v xs := h.keep hb.size fun _ hp hn => hb.cell hp hn
theorem V.new {g g' : Nat} {w : World} {v : Value} {xs : List Nat} (h : V g' w v xs) (hg : w.heap.size ≤ g) : V g w v xs := by
  obtain ⟨A, c, rfl, hc, hx, hr⟩ := h
  refine ⟨A, c, rfl, hc, hx, fun h0 => ?_⟩
  obtain ⟨ad, hA, hb, hne, hcell⟩ := hr h0
  exact ⟨ad, hA, hb, by omega, hcell⟩
theorem V.nil_ (g : Nat) (w : World) (A : Option Addr) (c : Nat) : V g w (.slice A 0 c) [] := ⟨A, c, rfl, ⟨Nat.zero_le _, Nat.zero_le _⟩, by simp, fun h => absurd h (by simp)⟩
/-- A slice of it. -/
theorem V.take {g : Nat} {w : World} {A : Option Addr} {n c : Nat} {xs : List Nat} (h : V g w (.slice A n c) xs) {k c' : Nat} (hk : k ≤ n) (hc' : k ≤ c') : V g w (.slice A k c') (xs.take k) := by
  obtain ⟨A, c, hv, hc, hx, hr⟩ := h
  injection hv with h1 h2 h3
  subst h1 h2 h3
  have hlen : (xs.take k).length = k := by simp; omega
  refine ⟨_, c', by rw [hlen], by omega, fun x hx' => hx x (List.mem_of_mem_take hx'), fun h0 => ?_⟩
  obtain ⟨ad, hA, hb, hne, hcell⟩ := hr (by omega)
  refine ⟨ad, hA, hb, hne, fun j hj => ?_⟩
  rw [hcell j (by omega), lb_take (by omega)]
theorem V.drop {g : Nat} {w : World} {ad : Addr} {n c : Nat} {xs : List Nat} (h : V g w (.slice (some ad) n c) xs) {k m c' : Nat} (hk : k ≤ n) (hm : n - k = m) (hc' : m ≤ c') : V g w (.slice (some (ad.add k)) m c') (xs.drop k) := by
  obtain ⟨A, c, hv, hc, hx, hr⟩ := h
  injection hv with h1 h2 h3
  subst h1 h2 h3
  have hlen : (xs.drop k).length = m := by simp; omega
  refine ⟨_, c', by rw [hlen], by omega, fun x hx' => hx x (List.mem_of_mem_drop hx'), fun h0 => ?_⟩
  obtain ⟨ad', hA, hb, hne, hcell⟩ := hr (by omega)
  injection hA with hA
  subst hA
  refine ⟨_, rfl, by rw [addr_add_block]; exact hb, by rw [addr_add_block]; exact hne, fun j hj => ?_⟩
  rw [addr_add_add, hcell (k + j) (by omega), lb_drop]
theorem V.opened {g : Nat} {w : World} {v : Value} {xs : List Nat} (h : V g w v xs) {n : Nat} (hn : xs.length = n) (h0 : 0 < n) : ∃ ad c, v = .slice (some ad) n c ∧ n ≤ c ∧ ad.block < w.heap.size ∧ ad.block ≠ g ∧ ∀ j, j < n → w.cell? (ad.add j) = some (.int .u64 (lb xs j : Nat)) := by
  subst hn
  obtain ⟨A, c, rfl, hc, hx, hr⟩ := h
  obtain ⟨ad, rfl, hb, hne, hcell⟩ := hr h0
  exact ⟨ad, c, rfl, hc.1, hb, hne, hcell⟩
theorem V.shape {g : Nat} {w : World} {v : Value} {xs : List Nat} (h : V g w v xs) : ∃ A c, v = .slice A xs.length c ∧ xs.length ≤ c := by
  obtain ⟨A, c, rfl, hc, _⟩ := h; exact ⟨A, c, rfl, hc.1⟩

def L64 (o : List Nat) : List Value := o.map fun x => Value.int .u64 (x : Nat)
theorem L64_length (o : List Nat) : (L64 o).length = o.length := by simp [L64]
theorem L64_get (o : List Nat) {j : Nat} (h : j < o.length) : (L64 o)[j]? = some (.int .u64 (lb o j : Nat)) := by
  unfold L64 lb; simp [h]
theorem L64_append (a b : List Nat) : L64 (a ++ b) = L64 a ++ L64 b := by simp [L64]
theorem L64_set (a : List Nat) (i x : Nat) : L64 (a.set i x) = (L64 a).set i (.int .u64 (x : Nat)) := by simp [L64, List.map_set]
theorem L64_zeros (k : Nat) : L64 (List.replicate k 0) = List.replicate k (.int .u64 0) := by simp [L64]

/-- v is a row of the call's own, from block base on: the words o. -/
def Ow (w : World) (base : Nat) (v : Value) (o : List Nat) : Prop := w.ownsRow base 39 1 v o.length (L64 o)
theorem Ow.caps {w : World} {base g n c : Nat} {o : List Nat} (h : Ow w base (.slice (some ⟨g, 0, none⟩) n c) o) : n = o.length ∧ n ≤ c ∧ c ≤ maxLen := by
  rcases h.2 with ⟨h1, _⟩ | ⟨g', cap, cur, h1, hg, hh, h2, h3, h4, h5⟩
  · cases h1
  · injection h1 with e1 e2 e3
    subst e2 e3
    exact ⟨rfl, h2, h3⟩
theorem Ow.block {w : World} {base g n c : Nat} {o : List Nat} (h : Ow w base (.slice (some ⟨g, 0, none⟩) n c) o) : base ≤ g ∧ g < w.heap.size := by
  have h0 : w.ownsRow base 39 1 (.slice (some ⟨g, 0, none⟩) n c) o.length (L64 o) := h
  exact h0.lt g rfl
theorem Ow.cell {w : World} {base g n c : Nat} {o : List Nat} (h : Ow w base (.slice (some ⟨g, 0, none⟩) n c) o) {j : Nat} (hj : j < n) : w.cell? ⟨g, j, none⟩ = some (.int .u64 (lb o j : Nat)) := by
  obtain ⟨e, _, _⟩ := h.caps
  subst e
  have h0 : w.ownsRow base 39 1 (.slice (some ⟨g, 0, none⟩) o.length c) o.length (L64 o) := h
  rw [World.ownsRow.cellAt h0 j (by omega)]; exact L64_get o hj
theorem Ow.frozen {w : World} {base g n c : Nat} {o : List Nat} (h : Ow w base (.slice (some ⟨g, 0, none⟩) n c) o) (j : Nat) : w.frozen? ⟨g, j, none⟩ = false := by
  obtain ⟨e, _, _⟩ := h.caps
  subst e
  have h0 : w.ownsRow base 39 1 (.slice (some ⟨g, 0, none⟩) o.length c) o.length (L64 o) := h
  exact World.ownsRow.frozenAt h0 j
theorem Ow.set_ {w : World} {base g n c : Nat} {o : List Nat} (h : Ow w base (.slice (some ⟨g, 0, none⟩) n c) o) (j x : Nat) : Ow (w.setCell ⟨g, j, none⟩ (.int .u64 (x : Nat))) base (.slice (some ⟨g, 0, none⟩) n c) (o.set j x) := by
  obtain ⟨e, _, _⟩ := h.caps
  subst e
  have h0 : w.ownsRow base 39 1 (.slice (some ⟨g, 0, none⟩) o.length c) o.length (L64 o) := h
  have := (World.ownsRow.stored h0 j (.int .u64 (x : Nat))).1
  unfold Ow
  rw [L64_set, List.length_set]
  exact this
theorem Ow.drew {w : World} {base : Nat} {v : Value} {o : List Nat} (h : Ow w base v o) : Ow w.drew base v o := h
theorem Ow.alloc {w : World} {base : Nat} {v : Value} {o : List Nat} (h : Ow w base v o) (x : Obj) : Ow (w.alloc x) base v o := World.ownsRow.alloc h x
theorem Ow.below {w w' : World} {base B : Nat} {v : Value} {o : List Nat} (h : Ow w base v o) (hB : Below B w w') (hv : ∀ g, v.ownBlock = some g → g < B) : Ow w' base v o := by
  refine ⟨h.1, ?_⟩
  rcases h.2 with hn | ⟨g, cap, cur, rfl, hb, hgg, rest⟩
  · exact .inl hn
  · refine .inr ⟨g, cap, cur, rfl, hb, ?_, rest⟩
    rw [hB.block g (hv g rfl)]
    exact hgg
theorem Ow.ext {w w' : World} {base g n c : Nat} {o : List Nat} (h : Ow w base (.slice (some ⟨g, 0, none⟩) n c) o) (hB : Ext w w') : Ow w' base (.slice (some ⟨g, 0, none⟩) n c) o :=
  h.below hB fun g' e => by have h2 := h.block.2; have e' : g = g' := Option.some.inj e; omega
theorem Ow.but {w w' : World} {base g q n c : Nat} {o : List Nat} (h : Ow w base (.slice (some ⟨g, 0, none⟩) n c) o) (hb : But q w w') (hne : g ≠ q) : Ow w' base (.slice (some ⟨g, 0, none⟩) n c) o := by
  have hlt := h.block.2
  refine ⟨h.1, ?_⟩
  rcases h.2 with hn | ⟨q', cap, cur, e, hbq, hgg, rest⟩
  · exact .inl hn
  · injection e with e1 e2 e3
    injection e1 with e1
    injection e1 with e1
    subst e1
    refine .inr ⟨g, cap, cur, by rw [e2, e3], hbq, ?_, rest⟩
    rw [hb.block g hlt (fun e => hne (by injection e))]
    exact hgg
theorem Ow.base_mono {w : World} {base base' : Nat} {v : Value} {o : List Nat} (h : Ow w base v o) (hb : base' ≤ base) : Ow w base' v o := by
  refine ⟨h.1, ?_⟩
  rcases h.2 with hn | ⟨g, cap, cur, rfl, hg, rest⟩
  · exact .inl hn
  · exact .inr ⟨g, cap, cur, rfl, by omega, rest⟩
theorem Ow.zeros {w : World} {base g : Nat} {n : Nat} (h : w.ownsRow base 39 1 (.slice (some ⟨g, 0, none⟩) n n) n (madeCells (Value.int .u64 0).cells (n * 1)).toList) :
    Ow w base (.slice (some ⟨g, 0, none⟩) n n) (List.replicate n 0) := by
  have e : (madeCells (Value.int .u64 0).cells (n * 1)).toList = L64 (List.replicate n 0) := by
    rw [L64_zeros, Nat.mul_one]; exact toList_madeCells_one _ _
  rw [e] at h
  unfold Ow
  rw [List.length_replicate]
  exact h
/-- A row is read by whoever does not write into it. -/
theorem Ow.toV {w : World} {base g n c : Nat} {o : List Nat} (h : Ow w base (.slice (some ⟨g, 0, none⟩) n c) o) (hx : ∀ x ∈ o, x < 18446744073709551616) (q : Nat) (hq : g ≠ q) : V q w (.slice (some ⟨g, 0, none⟩) n c) o := by
  obtain ⟨e, h1, h2⟩ := h.caps
  subst e
  refine ⟨_, c, rfl, ⟨h1, by unfold maxLen at h2; omega⟩, hx, fun h0 => ⟨_, rfl, h.block.2, hq, fun j hj => ?_⟩⟩
  rw [addr_zero_add]; exact h.cell hj
theorem But.toExt {g : Nat} {a b : World} (h : But g a b) (hB : a.heap.size ≤ g) : Ext a b := h.below hB (Nat.le_refl _)
theorem Ext.but {g : Nat} {a b c : World} (h : Ext a b) (k : But g b c) (hg : a.heap.size ≤ g) : Ext a c := Below.trans h (k.below hg h.size)
end Go.Proofs.YtigdflfhepelaaaGreatDoor
/- Limbs as words, and back. -/
namespace Go.Proofs.YtigdflfhepelaaaGreatDoor
open Go.RowKit
set_option linter.unusedVariables false
set_option maxHeartbeats 400000

theorem u64_or32 (x y z : Nat) (hx : x < 4294967296) (hy : y < 4294967296) (hz : x + 4294967296 * y = z) : bits .or .u64 (x : Int) ((4294967296 * y : Nat) : Int) = (z : Int) := by
  rw [u64_or_nat _ _ (by omega) (by omega), Nat.or_comm, nat_join 32 _ x (Nat.mul_mod_right _ _) hx]
  omega
structure PkI (xs : List Nat) (m i : Nat) (o : List Nat) : Prop where
  len : o.length = m
  at_ : ∀ j, j < i → lb o j = lb (packL xs) j
theorem PkI.step {xs : List Nat} {m i : Nat} {o : List Nat} (h : PkI xs m i o) (hi : i < m) (x : Nat) (hx : lb (packL xs) i = x) : PkI xs m (i + 1) (o.set i x) := by
  refine ⟨by simp [h.len], fun j hj => ?_⟩
  rw [lb_set _ _ _ _ (by rw [h.len]; exact hi)]
  by_cases e : i = j
  · rw [if_pos e, ← e, hx]
  · rw [if_neg e]; exact h.at_ j (by omega)
theorem PkI.done {xs : List Nat} {m : Nat} {o : List Nat} (h : PkI xs m m o) (hm : (packL xs).length = m) : o = packL xs :=
  ext_lb (by rw [h.len, hm]) fun j hj => h.at_ j (by rw [← h.len]; exact hj)

set_option maxRecDepth 100000 in
set_option maxHeartbeats 4000000 in
theorem pack_calls (w : World) (v : Value) (xs : List Nat) (h : U w v xs) (hl : xs.length ≤ 1000000) (m : Nat) (hm : (xs.length + 1) / 2 = m) :
    Calls Tryz.prog 88 #[v] w fun e w' => e = .returned (.slice (some ⟨w.heap.size, 0, none⟩) m m) ∧ Ow w' w.heap.size (.slice (some ⟨w.heap.size, 0, none⟩) m m) (packL xs) ∧ Ext w w' := by
  obtain ⟨A, c, rfl, ⟨hc, hmx⟩, hx, hr⟩ := h
  obtain ⟨i0, hi, hz0, hz1, hz2⟩ := info_parts info64
  obtain ⟨n, hn⟩ : ∃ n, xs.length = n := ⟨_, rfl⟩
  rw [hn] at hc hmx hr hl hm ⊢
  have HM : Hid ((packL xs).length = m) := by rw [Hid, packL_len, hn]; exact hm
  have HN := Lib.hid hn
  have HXL := Lib.hid (lb_packL xs)
  have hmi : ((n : Int) + 1) / 2 = (m : Int) := by omega
  obtain ⟨q, hq⟩ : ∃ q, n / 2 = q := ⟨_, rfl⟩
  have hqi : (n : Int) / 2 = (q : Int) := by omega
  obtain ⟨B, hB⟩ : ∃ B, w.heap.size = B := ⟨_, rfl⟩
  rw [hB]
  have HBS := Lib.hid hB
  have hm1 : m ≤ 1000000 := by omega
  clear hn
  go_enter Tryz.func88, Tryz.ntmps88
  go_wp2_with (at_make; refine wpList_make_full _ rfl _ _ 114 rfl w.heap.size 39 i0 (.int .u64 0) 1 Tryz.underlying114 hi hz0 hz1 _ _ _ _ m rfl rfl (by omega) (by omega) (by rw [hz2]; omega) (by unfold maxLen; omega) (Nat.le_refl _) ?_; intro w1 hown hgrow)
  have ho0 := Ow.zeros hown
  have hE0 : Ext w w1 := (Ext.refl w).grown hgrow (Nat.le_refl _) (fun _ h => by cases h)
  rw [hB] at ho0
  clear hown hgrow hi hz0 hz1 hz2 i0
  go_wp2
  go_loopw [13] (fun t wr => ∃ (i : Nat) (o : List Nat), i ≤ q ∧ t = .int .i64 (i : Nat) ∧ Hid (PkI xs m i o) ∧ Ow wr B (.slice (some ⟨B, 0, none⟩) m m) o ∧ Ext w wr) (fun t _ => q - (intOf t).toNat)
  case atStart => exact ⟨0, _, Nat.zero_le _, rfl, ⟨by simp, fun j hj => absurd hj (by omega)⟩, ho0, hE0⟩
  case round =>
    clear ho0 hE0
    obtain ⟨i, o, hiq, rfl, HO, hown, hE⟩ := hrel
    by_cases hlt : i < q
    · obtain ⟨ad, rfl, hb, hcell⟩ := hr (by omega)
      have hc0 := (hE.cell (p := ad.add (2 * i)) (by rw [addr_add_block]; exact hb)).trans (hcell (2 * i) (by omega))
      have hc1 := (hE.cell (p := ad.add (2 * i + 1)) (by rw [addr_add_block]; exact hb)).trans (hcell (2 * i + 1) (by omega))
      rw [addr_at _ (2 * i + 1) (by omega)] at hc1
      have hb0 := lb_lt hx (2 * i)
      have hb1 := lb_lt hx (2 * i + 1)
      have hz := HXL.out i
      obtain ⟨x, hx0⟩ : ∃ x, lb xs (2 * i) = x := ⟨_, rfl⟩
      obtain ⟨y, hy0⟩ : ∃ y, lb xs (2 * i + 1) = y := ⟨_, rfl⟩
      rw [hx0] at hc0 hb0 hz
      rw [hy0] at hc1 hb1 hz
      obtain ⟨z, hzz⟩ : ∃ z, x + 4294967296 * y = z := ⟨_, rfl⟩
      rw [hzz] at hz
      have hor := u64_or32 x y z hb0 hb1 hzz
      have hyi : (y : Int) * 4294967296 = ((4294967296 * y : Nat) : Int) := by omega
      have hyw : IntKind.u64.wrap ((4294967296 * y : Nat) : Int) = ((4294967296 * y : Nat) : Int) := by rw [IntKind.wrap_u64]; omega
      have hym : ((4294967296 * y : Nat) : Int) % 18446744073709551616 = ((4294967296 * y : Nat) : Int) := by omega
      have hxw : IntKind.u64.wrap (x : Int) = (x : Int) := by rw [IntKind.wrap_u64]; omega
      have hyw2 : IntKind.u64.wrap (y : Int) = (y : Int) := by rw [IntKind.wrap_u64]; omega
      have hf := hown.frozen i
      have hcz := hown.cell (j := i) (by omega)
      have hown2 := hown.set_ i z
      have hE2 := hE.setCell (p := ⟨B, i, none⟩) (by rw [hB]; exact Nat.le_refl _) (.int .u64 (z : Nat))
      have HST : Hid (PkI xs m (i + 1) (o.set i z)) := HO.out.step (by omega) z hz
      generalize 4294967296 * y = y2 at *
      have h2a : (0 : Int) ≤ 2 * (i : Int) := by omega
      have h2b : 2 * (i : Int) < (n : Int) := by omega
      have h2c : 2 * (i : Int) + 1 < (n : Int) := by omega
      have h2d : (2 * (i : Int)).toNat = 2 * i := by omega
      have h2e : (2 * (i : Int) + 1).toNat = 2 * i + 1 := by omega
      have h2f : (i : Int) < (m : Int) := by omega
      have hbn : (ad.add (2 * i)).block ≠ B := by rw [addr_add_block]; omega
      have hbn2 : ad.block ≠ B := by omega
      clear hx0 hy0 hz hzz hb0 hb1 hown HO hE
      go_wp2
      go_region
      all_goals
        go_wp2
        go_roundw
        case rel => exact ⟨i + 1, _, by omega, by go_num, HST, hown2.drew, hE2.drew⟩
        case measure => simp [intOf]; omega
    · obtain rfl : i = q := by omega
      by_cases hodd : n % 2 = 1
      · have hmm : m = i + 1 := by omega
        have hm2 : (n : Int).tmod 2 = 1 := by rw [Int.tmod_eq_emod_of_nonneg (by omega)]; omega
        have hm3 : (n : Int) % 2 = 1 := by omega
        obtain ⟨ad, rfl, hb, hcell⟩ := hr (by omega)
        have hc0 := (hE.cell (p := ad.add (2 * i)) (by rw [addr_add_block]; exact hb)).trans (hcell (2 * i) (by omega))
        have hz := HXL.out i
        rw [lb_out (o := xs) (j := 2 * i + 1) (by rw [HN.out]; omega), Nat.mul_zero, Nat.add_zero] at hz
        have hb0 := lb_lt hx (2 * i)
        obtain ⟨x, hx0⟩ : ∃ x, lb xs (2 * i) = x := ⟨_, rfl⟩
        rw [hx0] at hc0 hb0 hz
        have hxw : IntKind.u64.wrap (x : Int) = (x : Int) := by rw [IntKind.wrap_u64]; omega
        have hf := hown.frozen i
        have hcz := hown.cell (j := i) (by omega)
        have hown2 := hown.set_ i x
        have hE2 := hE.setCell (p := ⟨B, i, none⟩) (by rw [hB]; exact Nat.le_refl _) (.int .u64 (x : Nat))
        have HST : Hid (PkI xs m (i + 1) (o.set i x)) := HO.out.step (by omega) x hz
        rw [← hmm] at HST
        have hdone := HST.out.done HM.out
        rw [hdone] at hown2
        have e1 : (n : Int) - 1 = ((2 * i : Nat) : Int) := by omega
        have e2 : (m : Int) - 1 = (i : Int) := by omega
        have e3 : 2 * i < n := by omega
        have e4 : i < m := by omega
        clear hx0 hz hb0 hown HO hE hdone HST
        go_wp2
        go_ret
        exact ⟨rfl, hown2, hE2⟩
      · have hmm : m = i := by omega
        have hm2 : (n : Int).tmod 2 = 0 := by rw [Int.tmod_eq_emod_of_nonneg (by omega)]; omega
        have hm3 : (n : Int) % 2 = 0 := by omega
        subst hmm
        have hdone := HO.out.done HM.out
        rw [hdone] at hown
        clear hdone HO
        go_wp2
        go_ret
        exact ⟨rfl, hown, hE⟩

/-- The natural of limbs: noughts at the end are cut. -/
theorem trim32_calls (w : World) (v : Value) (xs : List Nat) (h : U w v xs) :
    Calls Tryz.prog 89 #[v] w fun e w' => (∃ u, e = .returned u ∧ Un w u (val xs)) ∧ w = w' := by
  have h' := h
  obtain ⟨A, c, rfl, ⟨hc, hm⟩, hx, hr⟩ := h
  go_enter Tryz.func89, Tryz.ntmps89
  go_wp2
  go_loop [3] (fun n => ∃ k : Nat, k ≤ xs.length ∧ n = .int .i64 k ∧ Hid (∀ j, k ≤ j → j < xs.length → lb xs j = 0)) (fun n => (intOf n).toNat)
  case atStart => exact ⟨xs.length, Nat.le_refl _, rfl, fun j h1 h2 => by omega⟩
  case round =>
    obtain ⟨k, hk, rfl, hz⟩ := hrel
    have hfin : ∀ c', k ≤ c' → (0 < k → lb xs (k - 1) ≠ 0) → Un w (.slice A k c') (val xs) := fun c' h1 h2 => by
      unfold Un; rw [strip_eq xs k hx hk hz.out h2]; exact h'.take hk h1
    rcases Nat.eq_zero_or_pos k with rfl | h0
    · have HF := Lib.hid (hfin 0 (Nat.le_refl _) (fun h => absurd h (by omega)))
      clear hfin
      go_wp2
      go_ways
      go_ret
      exact ⟨⟨_, rfl, HF.out⟩, rfl⟩
    · obtain ⟨ad, rfl, hb, hcell⟩ := hr (by omega)
      have hc1 := hcell (k - 1) (by omega)
      by_cases hx0 : lb xs (k - 1) = 0
      · have ht : ((((lb xs (k - 1) : Nat)) : Int) == 0) = true := by rw [hx0]; rfl
        have HX := Lib.hid hx0
        clear hx0
        go_wp2
        go_round
        case rel => exact ⟨k - 1, by omega, by go_num, fun j h1 h2 => by
          rcases Nat.lt_or_ge j k with h3 | h3
          · have : j = k - 1 := by omega
            subst this; exact HX.out
          · exact hz.out j h3 h2⟩
        case measure => simp [intOf]; omega
      · have ht : ((((lb xs (k - 1) : Nat)) : Int) == 0) = false := by rw [beq_eq_false_iff_ne]; omega
        have HF := Lib.hid (hfin k (Nat.le_refl _) (fun _ => hx0))
        clear hfin hx0
        go_wp2
        go_ret
        exact ⟨⟨_, rfl, HF.out⟩, rfl⟩

structure UnI (ws : List Nat) (m i : Nat) (o : List Nat) : Prop where
  len : o.length = m
  at_ : ∀ j, j < 2 * i → lb o j = lb (unpackL ws) j
theorem UnI.step {ws : List Nat} {m i : Nat} {o : List Nat} (h : UnI ws m i o) (hi : 2 * i + 1 < m) (x : Nat) (hx : lb ws i = x) : UnI ws m (i + 1) ((o.set (2 * i) (x % 4294967296)).set (2 * i + 1) (x / 4294967296)) := by
  refine ⟨by simp [h.len], fun j hj => ?_⟩
  have hu := lb_unpackL ws i
  rw [hx] at hu
  rw [lb_set _ _ _ _ (by rw [List.length_set, h.len]; exact hi), lb_set _ _ _ _ (by rw [h.len]; omega)]
  by_cases e : 2 * i + 1 = j
  · rw [if_pos e, ← e, hu.2]
  · rw [if_neg e]
    by_cases e2 : 2 * i = j
    · rw [if_pos e2, ← e2, hu.1]
    · rw [if_neg e2]; exact h.at_ j (by omega)
theorem UnI.done {ws : List Nat} {m i : Nat} {o : List Nat} (h : UnI ws m i o) (hm : (unpackL ws).length = m) (hi : 2 * i = m) : o = unpackL ws :=
  ext_lb (by rw [h.len, hm]) fun j hj => h.at_ j (by rw [hi, ← h.len]; exact hj)

set_option maxRecDepth 100000 in
set_option maxHeartbeats 4000000 in
theorem unpack_calls (w : World) (g0 : Nat) (v : Value) (ws : List Nat) (h : V g0 w v ws) (hl : ws.length ≤ 1000000) :
    Calls Tryz.prog 86 #[v] w fun e w' => (∃ u, e = .returned u ∧ Un w' u (wal ws)) ∧ Ext w w' := by
  obtain ⟨A, c, rfl, ⟨hc, hmx⟩, hx, hr⟩ := h
  obtain ⟨i0, hi, hz0, hz1, hz2⟩ := info_parts info32
  obtain ⟨n, hn⟩ : ∃ n, ws.length = n := ⟨_, rfl⟩
  rw [hn] at hc hmx hr hl ⊢
  obtain ⟨m, hm⟩ : ∃ m, 2 * n = m := ⟨_, rfl⟩
  have HM : Hid ((unpackL ws).length = m) := by rw [Hid, unpackL_len, hn]; exact hm
  have hmi : (2 : Int) * (n : Int) = (m : Int) := by omega
  obtain ⟨B, hB⟩ : ∃ B, w.heap.size = B := ⟨_, rfl⟩
  have hm1 : m ≤ 2000000 := by omega
  have HW := Lib.hid (unpackL_lt ws hx)
  have HV := Lib.hid (val_unpackL ws)
  have HTR := Lib.hid (fun W v h => trim32_calls W v (unpackL ws) h)
  clear hn
  go_enter Tryz.func86, Tryz.ntmps86
  go_wp2_with (at_make; refine wpList_make_full _ rfl _ _ 22 rfl w.heap.size 46 i0 (.int .u32 0) 1 Tryz.underlying22 hi hz0 hz1 _ _ _ _ m rfl rfl (by omega) (by omega) (by rw [hz2]; omega) (by unfold maxLen; omega) (Nat.le_refl _) ?_; intro w1 hown hgrow)
  have ho0 : Own w1 w.heap.size (.slice (some ⟨w.heap.size, 0, none⟩) m m) (List.replicate m 0) := by
    have := Own.zeros hown
    rwa [List.length_replicate] at this
  have hE0 : Ext w w1 := (Ext.refl w).grown hgrow (Nat.le_refl _) (fun _ h => by cases h)
  rw [hB] at ho0
  clear hown hgrow hi hz0 hz1 hz2 i0
  go_wp2
  go_loopw [12] (fun t wr => ∃ (i : Nat) (o : List Nat), i ≤ n ∧ t = .int .i64 (i : Nat) ∧ Hid (UnI ws m i o) ∧ Own wr B (.slice (some ⟨B, 0, none⟩) m m) o ∧ Ext w wr) (fun t _ => n - (intOf t).toNat)
  case atStart => exact ⟨0, _, Nat.zero_le _, rfl, ⟨by simp, fun j hj => absurd hj (by omega)⟩, ho0, hE0⟩
  case round =>
    clear ho0 hE0
    obtain ⟨i, o, hiq, rfl, HO, hown, hE⟩ := hrel
    by_cases hlt : i < n
    · obtain ⟨ad, rfl, hb, hne, hcell⟩ := hr (by omega)
      have hc0 := (hE.cell (p := ad.add i) (by rw [addr_add_block]; exact hb)).trans (hcell i hlt)
      have hb0 : lb ws i < 18446744073709551616 := lb_lt_of (by decide) hx i
      obtain ⟨x, hx0⟩ : ∃ x, lb ws i = x := ⟨_, rfl⟩
      rw [hx0] at hc0 hb0
      have HST : Hid (UnI ws m (i + 1) ((o.set (2 * i) (x % 4294967296)).set (2 * i + 1) (x / 4294967296))) := HO.out.step (by omega) x hx0
      have hol := HO.out.len
      have hf0 := hown.frozen' (2 * i)
      have hf1 := hown.frozen' (2 * i + 1)
      have hk0 := hown.rd.2 (2 * i) (by omega)
      have hk1 := hown.rd.2 (2 * i + 1) (by omega)
      have hown2 := (hown.set' (2 * i) (x % 4294967296)).set' (2 * i + 1) (x / 4294967296)
      have hE2 := (hE.setCell (p := ⟨B, 2 * i, none⟩) (by rw [hB]; exact Nat.le_refl _) (.int .u32 (x % 4294967296 : Nat))).setCell (p := ⟨B, 2 * i + 1, none⟩) (by rw [hB]; exact Nat.le_refl _) (.int .u32 (x / 4294967296 : Nat))
      obtain ⟨x0, hxx0⟩ : ∃ x0, x % 4294967296 = x0 := ⟨_, rfl⟩
      obtain ⟨x1, hxx1⟩ : ∃ x1, x / 4294967296 = x1 := ⟨_, rfl⟩
      rw [hxx0, hxx1] at HST hown2 hE2
      have f0 : IntKind.u32.wrap (x : Int) = (x0 : Int) := by rw [IntKind.wrap_u32]; omega
      have f00 : (x : Int) % 4294967296 = (x0 : Int) := by omega
      have f1 : (x : Int) / 4294967296 = (x1 : Int) := by omega
      have hx1b : x1 < 4294967296 := by omega
      have f2 : IntKind.u32.wrap (x1 : Int) = (x1 : Int) := by rw [IntKind.wrap_u32]; omega
      have f3 : (x1 : Int) % 4294967296 = (x1 : Int) := by omega
      have h2a : (0 : Int) ≤ 2 * (i : Int) := by omega
      have h2b : 2 * (i : Int) < (m : Int) := by omega
      have h2c : 2 * (i : Int) + 1 < (m : Int) := by omega
      have h2d : (2 * (i : Int)).toNat = 2 * i := by omega
      have h2e : (2 * (i : Int) + 1).toNat = 2 * i + 1 := by omega
      have hbn : (ad.add i).block ≠ B := by rw [addr_add_block]; omega
      clear hx0 hb0 hxx0 hxx1 hown HO hE hol
      go_wp2
      go_roundw
      case rel => exact ⟨i + 1, _, by omega, by go_num, HST, hown2, hE2⟩
      case measure => simp [intOf]; omega
    · obtain rfl : i = n := by omega
      have hdone := HO.out.done HM.out hm
      rw [hdone] at hown
      have hu := hown.toU HW.out (by rw [HM.out]; omega)
      clear hdone HO hown
      go_wp2_with (fail)
      refine (HTR.out _ _ hu).mono ?_
      rintro e w2 ⟨⟨u, rfl, hu2⟩, rfl⟩
      rw [HV.out] at hu2
      have HF : Hid (∃ u', Ending.returned u = .returned u' ∧ Un wr u' (wal ws)) := ⟨_, rfl, hu2⟩
      clear hu2 hu
      go_wp2
      go_ret
      exact ⟨HF.out, hE⟩
end Go.Proofs.YtigdflfhepelaaaGreatDoor
/- Words added to a row, and taken away from it. -/
namespace Go.Proofs.YtigdflfhepelaaaGreatDoor
open Go.RowKit
set_option linter.unusedVariables false
set_option maxHeartbeats 400000

theorem run_addc (x y c s d : Nat) (hc : c ≤ 1) (hs : (x + y + c) % 18446744073709551616 = s) (hd : (x + y + c) / 18446744073709551616 = d) (w : World) :
    (callFunc 110 #[.int .u64 (x : Nat), .int .u64 (y : Nat), .int .u64 (c : Nat)]).run Tryz.prog w = .ok (.value (.tuple #[.int .u64 (s : Nat), .int .u64 (d : Nat)])) w := by
  rw [run_callFunc_extern Tryz.func110 (by kernel_rfl) (by kernel_rfl) (by kernel_rfl) (e := add64Entry) (by kernel_rfl), run_add64 x y c (by omega) (by omega) (by omega) (by omega), ← hs, ← hd]
  simp only [Result.andThen]
  congr 5 <;> omega
theorem run_subc (x y b s d : Nat) (hb : b ≤ 1) (hs : (x + 18446744073709551616 - y - b) % 18446744073709551616 = s) (hd : (if x < y + b then 1 else 0) = d) (w : World) :
    (callFunc 117 #[.int .u64 (x : Nat), .int .u64 (y : Nat), .int .u64 (b : Nat)]).run Tryz.prog w = .ok (.value (.tuple #[.int .u64 (s : Nat), .int .u64 (d : Nat)])) w := by
  rw [run_callFunc_extern Tryz.func117 (by kernel_rfl) (by kernel_rfl) (by kernel_rfl) (e := sub64Entry) (by kernel_rfl), run_sub64 x y b hb, hs, hd]
  rfl

/-- The first i words are added. -/
structure AdI (n off : Nat) (A : Nat) (i : Nat) (o : List Nat) (cy : Nat) : Prop where
  len : o.length = n
  lt : ∀ x ∈ o, x < 18446744073709551616
  cy1 : cy ≤ 1
  val : wal o + BB ^ (off + i) * cy = A
theorem AdI.step {n off A i : Nat} {o : List Nat} {cy : Nat} (h : AdI n off A i o cy) (hi : off + i < n) (y s d : Nat) (hy : y < 18446744073709551616)
    (hs : (lb o (off + i) + y + cy) % 18446744073709551616 = s) (hd : (lb o (off + i) + y + cy) / 18446744073709551616 = d) : AdI n off (A + BB ^ (off + i) * y) (i + 1) (o.set (off + i) s) d := by
  have hx : lb o (off + i) < 18446744073709551616 := lb_lt_of (by decide) h.lt _
  have h1 := h.cy1
  refine ⟨by simp [h.len], set_lt h.lt (by omega), by omega, ?_⟩
  rw [← Nat.add_assoc, Nat.pow_succ]
  exact wadd_step _ _ _ _ _ _ _ _ _ (wal_set o (off + i) s (by rw [h.len]; exact hi)) h.val (by unfold BB; omega)
/-- The first i words are taken away. -/
structure SbI (n off : Nat) (A T : Nat) (i : Nat) (o : List Nat) (cy : Nat) : Prop where
  len : o.length = n
  lt : ∀ x ∈ o, x < 18446744073709551616
  cy1 : cy ≤ 1
  val : wal o + T = A + BB ^ (off + i) * cy
theorem SbI.step {n off A T i : Nat} {o : List Nat} {cy : Nat} (h : SbI n off A T i o cy) (hi : off + i < n) (y s d : Nat) (hy : y < 18446744073709551616)
    (hs : (lb o (off + i) + 18446744073709551616 - y - cy) % 18446744073709551616 = s) (hd : (if lb o (off + i) < y + cy then 1 else 0) = d) : SbI n off A (T + BB ^ (off + i) * y) (i + 1) (o.set (off + i) s) d := by
  have hx : lb o (off + i) < 18446744073709551616 := lb_lt_of (by decide) h.lt _
  have h1 := h.cy1
  have hd1 : d ≤ 1 := by rw [← hd]; split <;> omega
  refine ⟨by simp [h.len], set_lt h.lt (by omega), hd1, ?_⟩
  rw [show off + (i + 1) = off + i + 1 from rfl, Nat.pow_succ]
  refine wsub_step _ _ _ _ _ _ _ _ _ _ (wal_set o (off + i) s (by rw [h.len]; exact hi)) h.val ?_
  unfold BB
  split at hd <;> omega

set_option maxRecDepth 100000 in
set_option maxHeartbeats 4000000 in
theorem addTo_calls (w : World) (g base n c off zl zc : Nat) (o as_ : List Nat) (va : Value) (hown : Ow w base (.slice (some ⟨g, 0, none⟩) n c) o) (ho : ∀ x ∈ o, x < 18446744073709551616)
    (hz : off + zl ≤ n) (hzc : zl ≤ zc) (hn : n ≤ 1000000) (ha : V g w va as_) (hal : as_.length ≤ zl) :
    Calls Tryz.prog 94 #[.slice (some ⟨g, off, none⟩) zl zc, va] w fun e w' => (∃ o' cy, e = .returned (.int .u64 (cy : Nat)) ∧ AdI n off (wal o + BB ^ off * wal as_) zl o' cy ∧ Ow w' base (.slice (some ⟨g, 0, none⟩) n c) o') ∧ But g w w' := by
  have hlim := ha.lim
  obtain ⟨A, ca, rfl, ⟨hca, hma⟩, hx, hr⟩ := id ha
  obtain ⟨na, hna⟩ : ∃ na, as_.length = na := ⟨_, rfl⟩
  have hcap := hown.caps
  have hgb := hown.block.2
  have HN := Lib.hid hna
  have HS : Hid (AdI n off (wal o + BB ^ off * wal (as_.take 0)) 0 o 0) := ⟨hcap.1.symm, ho, Nat.zero_le _, by simp [wal]⟩
  have HTK := Lib.hid (fun k => wal_take_succ as_ k)
  have HT2 : Hid (as_.take na = as_) := by rw [Hid, ← hna]; exact List.take_length
  rw [hna] at hca hma hr hal ⊢
  have hB0 := But.refl g w
  clear ha hna hcap ho
  go_enter Tryz.func94, Tryz.ntmps94
  go_wp2
  go_loopw [16, 5] (fun t s wr => ∃ (i : Nat) (o' : List Nat) (cy : Nat), i ≤ na ∧ t = .int .i64 (i : Nat) ∧ s = .int .u64 (cy : Nat) ∧ Hid (AdI n off (wal o + BB ^ off * wal (as_.take i)) i o' cy) ∧ Ow wr base (.slice (some ⟨g, 0, none⟩) n c) o' ∧ But g w wr) (fun t _ _ => na - (intOf t).toNat)
  case atStart => exact ⟨0, o, 0, Nat.zero_le _, rfl, rfl, HS, hown, hB0⟩
  case round =>
    clear HS hown hB0
    obtain ⟨i, o', cy, hi, rfl, rfl, HO, hown, hB⟩ := hrel
    by_cases hlt : i < na
    · obtain ⟨ad, rfl, hb, hne, hcell⟩ := hr (by omega)
      have hc0 := (hB.cell (p := ad.add i) (by rw [addr_add_block]; exact hb) (by rw [addr_add_block]; exact hne)).trans (hcell i hlt)
      have hy : lb as_ i < 18446744073709551616 := lb_lt_of (by decide) hx i
      have htk := HTK.out i (by rw [HN.out]; exact hlt)
      have hcz := hown.cell (j := off + i) (by omega)
      have hf := hown.frozen (off + i)
      have hx1 : lb o' (off + i) < 18446744073709551616 := lb_lt_of (by decide) HO.out.lt _
      have hcy := HO.out.cy1
      obtain ⟨y, hyy⟩ : ∃ y, lb as_ i = y := ⟨_, rfl⟩
      rw [hyy] at hc0 hy htk
      obtain ⟨s, hs⟩ : ∃ s, (lb o' (off + i) + y + cy) % 18446744073709551616 = s := ⟨_, rfl⟩
      obtain ⟨d, hd⟩ : ∃ d, (lb o' (off + i) + y + cy) / 18446744073709551616 = d := ⟨_, rfl⟩
      have hst := HO.out.step (by omega) y s d hy hs hd
      rw [Nat.add_assoc (wal o), Nat.pow_add, Nat.mul_assoc, ← Nat.mul_add, ← htk] at hst
      have HST := Lib.hid hst
      have hown2 := hown.set_ (off + i) s
      have hB2 := hB.setCell (off + i) (.int .u64 (s : Nat))
      obtain ⟨x, hxx⟩ : ∃ x, lb o' (off + i) = x := ⟨_, rfl⟩
      rw [hxx] at hs hd hcz hx1
      have hadd := run_addc x y cy s d hcy hs hd
      clear hst htk hyy hs hd hxx hown hB HO hy hx1 hcy
      go_wp2
      go_roundw
      case rel => exact ⟨i + 1, _, d, by omega, by go_num, rfl, HST, hown2, hB2⟩
      case measure => simp [intOf]; omega
    · obtain rfl : i = na := by omega
      rw [HT2.out] at HO
      clear hr hlt
      go_wp2
      go_loopw [9, 5] (fun t s wx => ∃ (j : Nat) (o2 : List Nat) (cy2 : Nat), j ≤ zl ∧ t = .int .i64 (j : Nat) ∧ s = .int .u64 (cy2 : Nat) ∧ Hid (AdI n off (wal o + BB ^ off * wal as_) j o2 cy2) ∧ Ow wx base (.slice (some ⟨g, 0, none⟩) n c) o2 ∧ But g w wx) (fun t _ _ => zl - (intOf t).toNat)
      case atStart => exact ⟨i, o', cy, hal, rfl, rfl, HO, hown, hB⟩
      case round =>
        clear hown hB HO
        obtain ⟨j, o2, cy2, hj, rfl, rfl, HO, hown, hB⟩ := hrel
        have hcy := HO.out.cy1
        by_cases h0 : cy2 = 0
        · subst h0
          have HF : Hid (∃ o' cy, Ending.returned (.int .u64 0) = .returned (.int .u64 (cy : Nat)) ∧ AdI n off (wal o + BB ^ off * wal as_) zl o' cy ∧ Ow wr base (.slice (some ⟨g, 0, none⟩) n c) o') := ⟨o2, 0, rfl, ⟨HO.out.len, HO.out.lt, Nat.zero_le _, by have := HO.out.val; simpa using this⟩, hown⟩
          clear hown HO
          go_wp2
          go_ret
          exact ⟨HF.out, hB⟩
        · have hne : (((cy2 : Nat) : Int) != 0) = true := by rw [bne_iff_ne]; omega
          by_cases hjz : j < zl
          · have hcz := hown.cell (j := off + j) (by omega)
            have hf := hown.frozen (off + j)
            have hx1 : lb o2 (off + j) < 18446744073709551616 := lb_lt_of (by decide) HO.out.lt _
            obtain ⟨s, hs⟩ : ∃ s, (lb o2 (off + j) + 0 + cy2) % 18446744073709551616 = s := ⟨_, rfl⟩
            obtain ⟨d, hd⟩ : ∃ d, (lb o2 (off + j) + 0 + cy2) / 18446744073709551616 = d := ⟨_, rfl⟩
            have hst := HO.out.step (by omega) 0 s d (by decide) hs hd
            rw [Nat.mul_zero, Nat.add_zero] at hst
            have HST := Lib.hid hst
            have hown2 := hown.set_ (off + j) s
            have hB2 := hB.setCell (off + j) (.int .u64 (s : Nat))
            obtain ⟨x, hxx⟩ : ∃ x, lb o2 (off + j) = x := ⟨_, rfl⟩
            rw [hxx] at hs hd hcz hx1
            have hadd : ∀ w, (callFunc 110 #[.int .u64 (x : Nat), .int .u64 0, .int .u64 (cy2 : Nat)]).run Tryz.prog w = .ok (.value (.tuple #[.int .u64 (s : Nat), .int .u64 (d : Nat)])) w := run_addc x 0 cy2 s d hcy hs hd
            clear hst hs hd hxx hown hB HO hx1 hcy h0
            go_wp2
            go_roundw
            case rel => exact ⟨j + 1, _, d, by omega, by go_num, rfl, HST, hown2, hB2⟩
            case measure => simp [intOf]; omega
          · obtain rfl : j = zl := by omega
            have HF : Hid (∃ o' cy, Ending.returned (.int .u64 (cy2 : Nat)) = .returned (.int .u64 (cy : Nat)) ∧ AdI n off (wal o + BB ^ off * wal as_) j o' cy ∧ Ow wr base (.slice (some ⟨g, 0, none⟩) n c) o') := ⟨o2, cy2, rfl, HO.out, hown⟩
            clear hown HO h0
            go_wp2
            go_ret
            exact ⟨HF.out, hB⟩
set_option maxRecDepth 100000 in
set_option maxHeartbeats 4000000 in
theorem takeFrom_calls (w : World) (g base n c off zl zc : Nat) (o as_ : List Nat) (va : Value) (hown : Ow w base (.slice (some ⟨g, 0, none⟩) n c) o) (ho : ∀ x ∈ o, x < 18446744073709551616)
    (hz : off + zl ≤ n) (hzc : zl ≤ zc) (hn : n ≤ 1000000) (ha : V g w va as_) (hal : as_.length ≤ zl) :
    Calls Tryz.prog 123 #[.slice (some ⟨g, off, none⟩) zl zc, va] w fun e w' => e = .returned (.tuple #[]) ∧ (∃ o' cy, SbI n off (wal o) (BB ^ off * wal as_) zl o' cy ∧ Ow w' base (.slice (some ⟨g, 0, none⟩) n c) o') ∧ But g w w' := by
  have hlim := ha.lim
  obtain ⟨A, ca, rfl, ⟨hca, hma⟩, hx, hr⟩ := id ha
  obtain ⟨na, hna⟩ : ∃ na, as_.length = na := ⟨_, rfl⟩
  have hcap := hown.caps
  have hgb := hown.block.2
  have HN := Lib.hid hna
  have HS : Hid (SbI n off (wal o) (BB ^ off * wal (as_.take 0)) 0 o 0) := ⟨hcap.1.symm, ho, Nat.zero_le _, by simp [wal]⟩
  have HTK := Lib.hid (fun k => wal_take_succ as_ k)
  have HT2 : Hid (as_.take na = as_) := by rw [Hid, ← hna]; exact List.take_length
  rw [hna] at hca hma hr hal ⊢
  have hB0 := But.refl g w
  clear ha hna hcap ho
  go_enter Tryz.func123, Tryz.ntmps123
  go_wp2
  go_loopw [15, 4] (fun t s wr => ∃ (i : Nat) (o' : List Nat) (cy : Nat), i ≤ na ∧ t = .int .i64 (i : Nat) ∧ s = .int .u64 (cy : Nat) ∧ Hid (SbI n off (wal o) (BB ^ off * wal (as_.take i)) i o' cy) ∧ Ow wr base (.slice (some ⟨g, 0, none⟩) n c) o' ∧ But g w wr) (fun t _ _ => na - (intOf t).toNat)
  case atStart => exact ⟨0, o, 0, Nat.zero_le _, rfl, rfl, HS, hown, hB0⟩
  case round =>
    clear HS hown hB0
    obtain ⟨i, o', cy, hi, rfl, rfl, HO, hown, hB⟩ := hrel
    by_cases hlt : i < na
    · obtain ⟨ad, rfl, hb, hne, hcell⟩ := hr (by omega)
      have hc0 := (hB.cell (p := ad.add i) (by rw [addr_add_block]; exact hb) (by rw [addr_add_block]; exact hne)).trans (hcell i hlt)
      have hy : lb as_ i < 18446744073709551616 := lb_lt_of (by decide) hx i
      have htk := HTK.out i (by rw [HN.out]; exact hlt)
      have hcz := hown.cell (j := off + i) (by omega)
      have hf := hown.frozen (off + i)
      have hx1 : lb o' (off + i) < 18446744073709551616 := lb_lt_of (by decide) HO.out.lt _
      have hcy := HO.out.cy1
      obtain ⟨y, hyy⟩ : ∃ y, lb as_ i = y := ⟨_, rfl⟩
      rw [hyy] at hc0 hy htk
      obtain ⟨s, hs⟩ : ∃ s, (lb o' (off + i) + 18446744073709551616 - y - cy) % 18446744073709551616 = s := ⟨_, rfl⟩
      obtain ⟨d, hd⟩ : ∃ d, (if lb o' (off + i) < y + cy then 1 else 0) = d := ⟨_, rfl⟩
      have hst := HO.out.step (by omega) y s d hy hs hd
      rw [Nat.pow_add, Nat.mul_assoc, ← Nat.mul_add, ← htk] at hst
      have HST := Lib.hid hst
      have hown2 := hown.set_ (off + i) s
      have hB2 := hB.setCell (off + i) (.int .u64 (s : Nat))
      obtain ⟨x, hxx⟩ : ∃ x, lb o' (off + i) = x := ⟨_, rfl⟩
      rw [hxx] at hs hd hcz hx1
      have hadd := run_subc x y cy s d hcy hs hd
      clear hst htk hyy hs hd hxx hown hB HO hy hx1 hcy
      go_wp2
      go_roundw
      case rel => exact ⟨i + 1, _, d, by omega, by go_num, rfl, HST, hown2, hB2⟩
      case measure => simp [intOf]; omega
    · obtain rfl : i = na := by omega
      rw [HT2.out] at HO
      clear hr hlt
      go_wp2
      go_loopw [8, 4] (fun t s wx => ∃ (j : Nat) (o2 : List Nat) (cy2 : Nat), j ≤ zl ∧ t = .int .i64 (j : Nat) ∧ s = .int .u64 (cy2 : Nat) ∧ Hid (SbI n off (wal o) (BB ^ off * wal as_) j o2 cy2) ∧ Ow wx base (.slice (some ⟨g, 0, none⟩) n c) o2 ∧ But g w wx) (fun t _ _ => zl - (intOf t).toNat)
      case atStart => exact ⟨i, o', cy, hal, rfl, rfl, HO, hown, hB⟩
      case round =>
        clear hown hB HO
        obtain ⟨j, o2, cy2, hj, rfl, rfl, HO, hown, hB⟩ := hrel
        have hcy := HO.out.cy1
        by_cases h0 : cy2 = 0
        · subst h0
          have HF : Hid (∃ o' cy, SbI n off (wal o) (BB ^ off * wal as_) zl o' cy ∧ Ow wr base (.slice (some ⟨g, 0, none⟩) n c) o') := ⟨o2, 0, ⟨HO.out.len, HO.out.lt, Nat.zero_le _, by have := HO.out.val; simpa using this⟩, hown⟩
          clear hown HO
          go_wp2
          go_end0
          exact ⟨rfl, HF.out, hB⟩
        · have hne : (((cy2 : Nat) : Int) != 0) = true := by rw [bne_iff_ne]; omega
          by_cases hjz : j < zl
          · have hcz := hown.cell (j := off + j) (by omega)
            have hf := hown.frozen (off + j)
            have hx1 : lb o2 (off + j) < 18446744073709551616 := lb_lt_of (by decide) HO.out.lt _
            obtain ⟨s, hs⟩ : ∃ s, (lb o2 (off + j) + 18446744073709551616 - 0 - cy2) % 18446744073709551616 = s := ⟨_, rfl⟩
            obtain ⟨d, hd⟩ : ∃ d, (if lb o2 (off + j) < 0 + cy2 then 1 else 0) = d := ⟨_, rfl⟩
            have hst := HO.out.step (by omega) 0 s d (by decide) hs hd
            rw [Nat.mul_zero, Nat.add_zero] at hst
            have HST := Lib.hid hst
            have hown2 := hown.set_ (off + j) s
            have hB2 := hB.setCell (off + j) (.int .u64 (s : Nat))
            obtain ⟨x, hxx⟩ : ∃ x, lb o2 (off + j) = x := ⟨_, rfl⟩
            rw [hxx] at hs hd hcz hx1
            have hadd : ∀ w, (callFunc 117 #[.int .u64 (x : Nat), .int .u64 0, .int .u64 (cy2 : Nat)]).run Tryz.prog w = .ok (.value (.tuple #[.int .u64 (s : Nat), .int .u64 (d : Nat)])) w := run_subc x 0 cy2 s d hcy hs hd
            clear hst hs hd hxx hown hB HO hx1 hcy h0
            go_wp2
            go_roundw
            case rel => exact ⟨j + 1, _, d, by omega, by go_num, rfl, HST, hown2, hB2⟩
            case measure => simp [intOf]; omega
          · obtain rfl : j = zl := by omega
            have HF : Hid (∃ o' cy, SbI n off (wal o) (BB ^ off * wal as_) j o' cy ∧ Ow wr base (.slice (some ⟨g, 0, none⟩) n c) o') := ⟨o2, cy2, HO.out, hown⟩
            clear hown HO h0
            go_wp2
            go_end0
            exact ⟨rfl, HF.out, hB⟩
end Go.Proofs.YtigdflfhepelaaaGreatDoor
/- The mathematics of a quotient word by word: a part of a row, the product that is taken off, the digit that was one too great, the words of limbs. -/
namespace Go.Proofs.YtigdflfhepelaaaGreatDoor
open Go.RowKit
set_option linter.unusedVariables false
set_option maxHeartbeats 400000

/-- A part of a row. -/
def Sg (pre s post : List Nat) : List Nat := pre ++ (s ++ post)
theorem sg_lb (pre s post : List Nat) (off i : Nat) (h0 : pre.length = off) (h : i < s.length) : lb (Sg pre s post) (off + i) = lb s i := by
  unfold Sg
  rw [lb_append, if_neg (by omega), lb_append, if_pos (by omega), h0, Nat.add_sub_cancel_left]
theorem sg_set (pre s post : List Nat) (off i x : Nat) (h0 : pre.length = off) (h : i < s.length) : (Sg pre s post).set (off + i) x = Sg pre (s.set i x) post := by
  unfold Sg
  rw [List.set_append, if_neg (by omega), h0, Nat.add_sub_cancel_left, List.set_append, if_pos h]
theorem sg_len (pre s post : List Nat) : (Sg pre s post).length = pre.length + s.length + post.length := by
  unfold Sg; rw [List.length_append, List.length_append]; omega
theorem sg_wal (pre s post : List Nat) : wal (Sg pre s post) = wal pre + BB ^ pre.length * (wal s + BB ^ s.length * wal post) := by
  unfold Sg; rw [wal_append, wal_append]
theorem sg_cut (o : List Nat) (j k : Nat) : o = Sg (o.take j) ((o.drop j).take k) ((o.drop j).drop k) := by
  unfold Sg; rw [List.take_append_drop, List.take_append_drop]

/-- The first i words of a product are taken off. -/
structure DgI (n A T i : Nat) (s0 s : List Nat) (bo : Nat) : Prop where
  len : s.length = n
  lt : ∀ x ∈ s, x < 18446744073709551616
  b1 : bo < 18446744073709551616
  val : wal s + T = A + BB ^ i * bo
  out : ∀ m, i ≤ m → lb s m = lb s0 m
theorem DgI.step {n A T i : Nat} {s0 s : List Nat} {bo : Nat} (h : DgI n A T i s0 s bo) (hi : i < n) (t x b2 : Nat) (hd : lb s i + BB * b2 = x + t + bo) (hx : x < 18446744073709551616) (hb : b2 < 18446744073709551616) :
    DgI n A (T + BB ^ i * t) (i + 1) s0 (s.set i x) b2 := by
  refine ⟨by simp [h.len], set_lt h.lt hx, hb, ?_, fun m hm => ?_⟩
  · rw [Nat.pow_succ]
    exact wsub_step _ _ _ _ _ _ _ _ _ _ (wal_set s i x (by rw [h.len]; exact hi)) h.val hd
  · rw [lb_set_other _ (by omega)]; exact h.out m (by omega)

theorem wal_lt_top (s : List Nat) (n : Nat) (hl : s.length = n + 1) (hx : ∀ x ∈ s, x < 18446744073709551616) : wal s < BB ^ n * (lb s n + 1) := by
  have h1 := wal_take_succ s n (by omega)
  rw [List.take_of_length_le (by omega)] at h1
  have h2 := wal_lt (s.take n) (fun x h => hx x (List.mem_of_mem_take h))
  rw [List.length_take, Nat.min_eq_left (by omega)] at h2
  rw [Nat.mul_add, Nat.mul_one]
  omega

/-- The guess is right: the last word. -/
theorem dg_fit (n T : Nat) (s0 s : List Nat) (bo t x : Nat) (h : DgI (n + 1) (wal s0) T n s0 s bo) (ht : lb s0 n = t) (hx : x + bo = t) : wal (s.set n x) + T = wal s0 ∧ ∀ y ∈ s.set n x, y < 18446744073709551616 := by
  have hs := wal_set s n x (by rw [h.len]; omega)
  have hb : t < 18446744073709551616 := by rw [← ht, ← h.out n (Nat.le_refl _)]; exact lb_lt_of (by decide) h.lt n
  rw [h.out n (Nat.le_refl _), ht] at hs
  have hv := h.val
  have h1 : BB ^ n * x + BB ^ n * bo = BB ^ n * t := by rw [← Nat.mul_add, hx]
  exact ⟨by omega, set_lt h.lt (by omega)⟩
/-- The guess is one too great: what was taken off too much is added again. -/
theorem dg_over1 (n T : Nat) (s0 s : List Nat) (bo t x : Nat) (h : DgI (n + 1) (wal s0) T n s0 s bo) (ht : lb s0 n = t) (hx : x + bo = t + BB) (hb : t < bo) : wal (s.set n x) + T = wal s0 + BB ^ n * BB ∧ ∀ y ∈ s.set n x, y < 18446744073709551616 := by
  have hs := wal_set s n x (by rw [h.len]; omega)
  rw [h.out n (Nat.le_refl _), ht] at hs
  have hv := h.val
  have h1 : BB ^ n * x + BB ^ n * bo = BB ^ n * t + BB ^ n * BB := by rw [← Nat.mul_add, hx, Nat.mul_add]
  exact ⟨by omega, set_lt h.lt (by unfold BB at hx; omega)⟩
theorem dg_over2 (n T V q1 A S1 : Nat) (s2 : List Nat) (c : Nat) (hS1 : S1 + T = A + BB ^ n * BB) (hT : T = q1 * V + V) (hA : q1 * V ≤ A) (h : AdI (n + 1) 0 (S1 + V) n s2 c) :
    (lb s2 n + c) = BB ∧ wal (s2.set n 0) + q1 * V = A := by
  have hv := h.val
  rw [Nat.zero_add] at hv
  have hc := h.cy1
  have hl := wal_lt_top s2 n h.len h.lt
  have hw : lb s2 n < BB := lb_lt_of (by decide) h.lt n
  have h1 : BB ^ n * BB < BB ^ n * (lb s2 n + 1 + c) := by
    rw [Nat.mul_add _ _ c]
    omega
  have h2 : BB < lb s2 n + 1 + c := Nat.lt_of_mul_lt_mul_left h1
  have h3 : lb s2 n + c = BB := by omega
  refine ⟨h3, ?_⟩
  have hs := wal_set s2 n 0 (by rw [h.len]; omega)
  have h4 : BB ^ n * lb s2 n + BB ^ n * c = BB ^ n * BB := by rw [← Nat.mul_add, h3]
  rw [Nat.mul_zero] at hs
  omega

/-- The first words of a row. -/
theorem wal_one (s : List Nat) (k : Nat) (hl : s.length = k + 1) : wal s = lb s k * BB ^ k + wal (s.take k) := by
  have h1 := wal_take_succ s k (by omega)
  rw [List.take_of_length_le (by omega)] at h1
  rw [h1, Nat.mul_comm (lb s k), Nat.add_comm]
theorem wal_two (s : List Nat) (k : Nat) (hl : s.length = k + 2) : wal s = (lb s (k + 1) * BB + lb s k) * BB ^ k + wal (s.take k) := by
  have h0 := wal_one s (k + 1) (by omega)
  have h1 := wal_take_succ s k (by omega)
  rw [h0, h1, Nat.pow_succ, Nat.add_mul, Nat.mul_comm (BB ^ k) (lb s k), Nat.mul_assoc, Nat.mul_comm BB (BB ^ k)]
  omega
theorem wal_three (s : List Nat) (k : Nat) (hl : s.length = k + 3) : wal s = ((lb s (k + 2) * BB + lb s (k + 1)) * BB + lb s k) * BB ^ k + wal (s.take k) := by
  have h0 : wal s = (lb s (k + 2) * BB + lb s (k + 1)) * BB ^ (k + 1) + wal (s.take (k + 1)) := wal_two s (k + 1) (by omega)
  have h1 := wal_take_succ s k (by omega)
  rw [h0, h1, Nat.pow_succ, Nat.add_mul _ (lb s k), Nat.mul_comm (BB ^ k) (lb s k), Nat.mul_assoc _ BB (BB ^ k), Nat.mul_comm BB (BB ^ k)]
  omega
theorem take_lt_pow (s : List Nat) (k : Nat) (hk : k ≤ s.length) (hx : ∀ x ∈ s, x < 18446744073709551616) : wal (s.take k) < BB ^ k := by
  have h2 := wal_lt (s.take k) (fun x h => hx x (List.mem_of_mem_take h))
  rwa [List.length_take, Nat.min_eq_left hk] at h2

/-- What is divided is below the divisor, a word on: its first word is not above the divisor's. -/
theorem top_le (s vs : List Nat) (k : Nat) (hs : s.length = k + 2) (hv : vs.length = k + 1) (hx : ∀ x ∈ vs, x < 18446744073709551616) (h : wal s < BB * wal vs) : lb s (k + 1) ≤ lb vs k := by
  have h1 := wal_one s (k + 1) hs
  have h2 := wal_lt_top vs k hv hx
  have h3 : lb s (k + 1) * BB ^ (k + 1) < (lb vs k + 1) * BB ^ (k + 1) := by
    have : BB * wal vs ≤ BB * (BB ^ k * (lb vs k + 1)) := Nat.mul_le_mul_left _ (Nat.le_of_lt h2)
    have e : (lb vs k + 1) * BB ^ (k + 1) = BB * (BB ^ k * (lb vs k + 1)) := by
      rw [Nat.pow_succ, Nat.mul_comm (lb vs k + 1), Nat.mul_comm (BB ^ k) BB, Nat.mul_assoc]
    omega
  have := Nat.lt_of_mul_lt_mul_right h3
  omega

/-- The quotient so far, and what is left. -/
structure WdI (V A n m j : Nat) (o ql : List Nat) : Prop where
  lo : o.length = m
  xo : ∀ x ∈ o, x < 18446744073709551616
  lq : ql.length + n = m
  xq : ∀ x ∈ ql, x < 18446744073709551616
  zero : ∀ i, i < j → lb ql i = 0
  sum : wal o + V * wal ql = A
  small : wal (o.drop j) < V
theorem wd_part {V A n m j : Nat} {o ql : List Nat} (h : WdI V A n m (j + 1) o ql) (hj : j + 1 + n ≤ m) (hV : V < BB ^ n) :
    ((o.drop j).take (n + 1)).length = n + 1 ∧ wal ((o.drop j).take (n + 1)) < BB * V ∧ wal ((o.drop j).drop (n + 1)) = 0 ∧ (o.take j).length = j := by
  have hl := h.lo
  have h1 : (o.drop j).length = m - j := by simp [hl]
  have h2 : o.drop j = lb o j :: o.drop (j + 1) := by
    rw [List.drop_eq_getElem_cons (by omega)]
    congr 1
    unfold lb; rw [List.getElem?_eq_getElem (by omega)]; rfl
  have h3 : wal (o.drop j) = lb o j + BB * wal (o.drop (j + 1)) := by rw [h2]; rfl
  have h4 : lb o j < BB := lb_lt_of (by decide) h.xo j
  have h5 : wal (o.drop j) < BB * V := by
    have : BB * (wal (o.drop (j + 1)) + 1) ≤ BB * V := Nat.mul_le_mul_left _ h.small
    rw [Nat.mul_add] at this
    omega
  have h6 := wal_cut (o.drop j) (n + 1) (by omega)
  have h7 : BB * V < BB ^ (n + 1) := by rw [Nat.pow_succ, Nat.mul_comm]; exact Nat.mul_lt_mul_of_pos_right hV (by decide)
  refine ⟨by rw [List.length_take, h1]; omega, by omega, ?_, by rw [List.length_take]; omega⟩
  rcases Nat.eq_zero_or_pos (wal ((o.drop j).drop (n + 1))) with h8 | h8
  · exact h8
  · have := Nat.mul_le_mul_left (BB ^ (n + 1)) h8
    omega
theorem WdI.step {V A n m j : Nat} {o ql : List Nat} (h : WdI V A n m (j + 1) o ql) (hj : j + 1 + n ≤ m) (hV : V < BB ^ n) (q r : Nat) (s' : List Nat) (hs : s'.length = n + 1) (hx : ∀ x ∈ s', x < 18446744073709551616)
    (hq : q < 18446744073709551616) (hdm : q * V + r = wal ((o.drop j).take (n + 1))) (hr : wal s' = r) (hrV : r < V) : WdI V A n m j (Sg (o.take j) s' ((o.drop j).drop (n + 1))) (ql.set j q) := by
  obtain ⟨h1, h2, h3, h4⟩ := wd_part h hj hV
  have hl := h.lo
  have hlq := h.lq
  have hpost : ((o.drop j).drop (n + 1)).length = m - j - (n + 1) := by simp only [List.length_drop, hl]
  have hset := wal_set ql j q (by omega)
  rw [h.zero j (by omega), Nat.mul_zero, Nat.add_zero] at hset
  have hw := sg_wal (o.take j) ((o.drop j).take (n + 1)) ((o.drop j).drop (n + 1))
  rw [← sg_cut, h3, Nat.mul_zero, Nat.add_zero, h4] at hw
  have hw2 := sg_wal (o.take j) s' ((o.drop j).drop (n + 1))
  rw [h3, h4, hr] at hw2
  simp only [Nat.mul_zero, Nat.add_zero] at hw2
  have hsum := h.sum
  refine ⟨?_, ?_, by simpa using h.lq, set_lt h.xq hq, fun i hi => ?_, ?_, ?_⟩
  · rw [sg_len, h4, hs, hpost]; omega
  · intro x hx'
    unfold Sg at hx'
    rw [List.mem_append, List.mem_append] at hx'
    rcases hx' with hx' | hx' | hx'
    · exact h.xo x (List.mem_of_mem_take hx')
    · exact hx x hx'
    · exact h.xo x (List.mem_of_mem_drop (List.mem_of_mem_drop hx'))
  · rw [lb_set_other _ (by omega)]; exact h.zero i (by omega)
  · rw [hset, hw2, Nat.mul_add V]
    have e : V * (BB ^ j * q) = BB ^ j * (q * V) := by rw [Nat.mul_left_comm, Nat.mul_comm V q]
    have e2 : BB ^ j * wal ((o.drop j).take (n + 1)) = BB ^ j * (q * V) + BB ^ j * r := by rw [← hdm, Nat.mul_add]
    omega
  · have : (Sg (o.take j) s' ((o.drop j).drop (n + 1))).drop j = s' ++ (o.drop j).drop (n + 1) := by
      unfold Sg
      rw [List.drop_append, List.drop_eq_nil_of_le (by omega), h4, Nat.sub_self, List.drop_zero, List.nil_append]
    rw [this, wal_append, h3, Nat.mul_zero, Nat.add_zero, hr]
    exact hrV
theorem WdI.done {V A n m : Nat} {o ql : List Nat} (h : WdI V A n m 0 o ql) (hV : V < BB ^ n) (hn : n ≤ m) : A / V = wal ql ∧ wal (o.take n) = A % V := by
  have h1 := h.small
  rw [List.drop_zero] at h1
  have hs := h.sum
  have hd := dv_done V A (wal ql) (wal o) (by rw [Nat.mul_comm]; omega) h1
  refine ⟨hd.1, ?_⟩
  rw [hd.2]
  have h6 := wal_cut o n (by rw [h.lo]; exact hn)
  rcases Nat.eq_zero_or_pos (wal (o.drop n)) with h8 | h8
  · rw [h8, Nat.mul_zero] at h6; omega
  · have := Nat.mul_le_mul_left (BB ^ n) h8
    omega
theorem WdI.start (V A n m : Nat) (o : List Nat) (k : Nat) (hk : k + n = m) (hn : 0 < n) (hlo : o.length = m) (hx : ∀ x ∈ o, x < 18446744073709551616) (hA : wal o = A) (hlt : A < BB ^ (m - 1)) (hV : BB ^ (n - 1) ≤ V) :
    WdI V A n m k o (List.replicate k 0) := by
  refine ⟨hlo, hx, by simp; omega, by simp, fun i _ => lb_zeros _ _, by rw [wal_zeros, Nat.mul_zero, Nat.add_zero]; exact hA, ?_⟩
  have h6 := wal_cut o k (by omega)
  have h7 : BB ^ k * wal (o.drop k) < BB ^ k * BB ^ (n - 1) := by
    rw [← Nat.pow_add, show k + (n - 1) = m - 1 by omega]; omega
  exact Nat.lt_of_lt_of_le (Nat.lt_of_mul_lt_mul_left h7) hV

/-- The first i limbs lie in words. -/
structure PcI (xs : List Nat) (n i : Nat) (o : List Nat) : Prop where
  len : o.length = n
  at_ : ∀ j, lb o j = lb (xs.take i) (2 * j) + 4294967296 * lb (xs.take i) (2 * j + 1)
theorem PcI.start (xs : List Nat) (n : Nat) : PcI xs n 0 (List.replicate n 0) := ⟨by simp, fun j => by rw [lb_zeros]; simp [lb]⟩
theorem lb_take_ge {xs : List Nat} {k j : Nat} (h : k ≤ j) : lb (xs.take k) j = 0 := lb_out (by rw [List.length_take]; omega)
theorem PcI.low {xs : List Nat} {n i : Nat} {o : List Nat} (h : PcI xs n i o) (k : Nat) (hk : i = 2 * k) (hi : k < n) (x : Nat) (hx : lb xs i = x) : lb o k = 0 ∧ PcI xs n (i + 1) (o.set k x) := by
  refine ⟨by rw [h.at_, lb_take_ge (by omega), lb_take_ge (by omega)], by simp [h.len], fun j => ?_⟩
  rw [lb_set _ _ _ _ (by rw [h.len]; exact hi)]
  by_cases e : k = j
  · rw [if_pos e, ← e, ← hk, lb_take (by omega), lb_take_ge (by omega), hx]; omega
  · rw [if_neg e, h.at_]
    rcases Nat.lt_or_ge j k with g | g
    · rw [lb_take (by omega), lb_take (by omega), lb_take (by omega), lb_take (by omega)]
    · rw [lb_take_ge (by omega), lb_take_ge (by omega), lb_take_ge (by omega), lb_take_ge (by omega)]
theorem PcI.high {xs : List Nat} {n i : Nat} {o : List Nat} (h : PcI xs n i o) (k : Nat) (hk : i = 2 * k + 1) (hi : k < n) (x : Nat) (hx : lb xs i = x) : lb o k = lb xs (2 * k) ∧ PcI xs n (i + 1) (o.set k (lb o k + 4294967296 * x)) := by
  have h0 : lb o k = lb xs (2 * k) := by rw [h.at_, lb_take (by omega), lb_take_ge (j := 2 * k + 1) (by omega)]; omega
  refine ⟨h0, by simp [h.len], fun j => ?_⟩
  rw [lb_set _ _ _ _ (by rw [h.len]; exact hi)]
  by_cases e : k = j
  · rw [if_pos e, ← e, h0, lb_take (by omega), lb_take (by omega), ← hk, hx]
  · rw [if_neg e, h.at_]
    rcases Nat.lt_or_ge j k with g | g
    · rw [lb_take (by omega), lb_take (by omega), lb_take (by omega), lb_take (by omega)]
    · rw [lb_take_ge (by omega), lb_take_ge (by omega), lb_take_ge (by omega), lb_take_ge (by omega)]
theorem PcI.done {xs : List Nat} {n i : Nat} {o : List Nat} (h : PcI xs n i o) (hi : xs.length = i) (hn : (i + 1) / 2 ≤ n) (hx : ∀ x ∈ xs, x < 4294967296) : wal o = val xs ∧ ∀ x ∈ o, x < 18446744073709551616 := by
  have ht : xs.take i = xs := by rw [← hi]; exact List.take_length
  have e : o = packL xs ++ List.replicate (n - (i + 1) / 2) 0 := by
    refine ext_lb ?_ fun j hj => ?_
    · rw [List.length_append, packL_len, hi, List.length_replicate, h.len]; omega
    · rw [h.at_, ht, lb_append]
      split
      · rw [lb_packL]
      · rename_i g
        rw [packL_len, hi] at g
        rw [lb_zeros, lb_out (o := xs) (by omega), lb_out (o := xs) (by omega)]
  refine ⟨?_, ?_⟩
  · rw [e, wal_append, wal_packL, wal_zeros, Nat.mul_zero, Nat.add_zero]
  · rw [e]
    intro x hx'
    rw [List.mem_append] at hx'
    rcases hx' with hx' | hx'
    · exact packL_lt xs hx x hx'
    · rw [List.mem_replicate] at hx'
      omega
end Go.Proofs.YtigdflfhepelaaaGreatDoor
/- Words copied; sums of rows; a row without words at its end. -/
namespace Go.Proofs.YtigdflfhepelaaaGreatDoor
open Go.RowKit
set_option linter.unusedVariables false
set_option maxHeartbeats 400000

theorem wal_splice (o xs : List Nat) (off : Nat) (h : off + xs.length ≤ o.length) (hz : ∀ j, off ≤ j → j < off + xs.length → lb o j = 0) : wal (splice o off xs) = wal o + BB ^ off * wal xs := by
  have e1 := wal_cut o off (by omega)
  have e2 := wal_cut (o.drop off) xs.length (by rw [List.length_drop]; omega)
  have e3 : wal ((o.drop off).take xs.length) = 0 := by
    have : (o.drop off).take xs.length = List.replicate xs.length 0 := by
      refine ext_lb (by simp; omega) fun j hj => ?_
      have hj' : j < xs.length := by simp at hj; omega
      rw [lb_take hj', lb_drop, lb_zeros, hz _ (by omega) (by omega)]
    rw [this, wal_zeros]
  rw [e3, Nat.zero_add, List.drop_drop] at e2
  unfold splice
  rw [wal_append, wal_append, List.length_take, Nat.min_eq_left (by omega), e1, e2, Nat.mul_add]
  omega
theorem splice_len (o xs : List Nat) (off : Nat) (h : off + xs.length ≤ o.length) : (splice o off xs).length = o.length := length_splice o off xs h
theorem splice_lt (o xs : List Nat) (off : Nat) (ho : ∀ x ∈ o, x < 18446744073709551616) (hx : ∀ x ∈ xs, x < 18446744073709551616) : ∀ x ∈ splice o off xs, x < 18446744073709551616 := by
  intro x h
  unfold splice at h
  rcases List.mem_append.1 h with h | h
  · exact ho x (List.mem_of_mem_take h)
  · rcases List.mem_append.1 h with h | h
    · exact hx x h
    · exact ho x (List.mem_of_mem_drop h)
theorem lb_splice_out (o xs : List Nat) (off j : Nat) (h : off + xs.length ≤ o.length) (hj : off + xs.length ≤ j) : lb (splice o off xs) j = lb o j := by
  unfold splice
  rw [lb_append, if_neg (by simp; omega), lb_append, if_neg (by simp; omega), lb_drop]
  congr 1
  simp; omega
theorem L64_splice (o xs : List Nat) (off : Nat) (t : List Value) (h : off + xs.length ≤ o.length) : splice (L64 o ++ t) off (L64 xs) = L64 (splice o off xs) ++ t := by
  unfold splice
  rw [L64_length, List.take_append_of_le_length (by rw [L64_length]; omega), List.drop_append_of_le_length (by rw [L64_length]; omega)]
  simp [L64, List.map_take, List.map_drop]

theorem wpList_copyW {w : World} {ops : Array Oper} {rest : List Oper} {o : Oper} {a : Act} {Q : Exit → Act → World → Prop} (hgd : o.guard = none) (d s : Operand)
    (ho : o.op = .call { callee := .builtin .copy, args := #[d, s], argTypes := #[114, 114] }) (g off dLen dCap : Nat) (sp : Option Addr) (sLen sCap : Nat)
    (hd : a.eval d = .slice (some ⟨g, off, none⟩) dLen dCap) (hs : a.eval s = .slice sp sLen sCap) (base n c : Nat) (os : List Nat) (hown : Ow w base (.slice (some ⟨g, 0, none⟩) n c) os)
    (xs : List Nat) (hx : V g w (.slice sp sLen sCap) xs) (hle : sLen ≤ dLen) (hfit : off + dLen ≤ n)
    (h : ∀ w', Ow w' base (.slice (some ⟨g, 0, none⟩) n c) (splice os off xs) → But g w w' → wpList Tryz.prog ops Q rest (a.put o.dst (goInt xs.length)) w') : wpList Tryz.prog ops Q (o :: rest) a w := by
  obtain ⟨A, c', hv, hcc, hlim, hr⟩ := hx
  injection hv with q1 q2 q3
  have hi : (Tryz.prog.info? 39).map (·.size) = some 1 := by kernel_rfl
  have hlen : (L64 xs).length = xs.length := L64_length xs
  have hcaps := hown.caps
  rcases Nat.eq_zero_or_pos xs.length with h0 | h0
  · obtain rfl := List.eq_nil_of_length_eq_zero h0
    have q2' : sLen = 0 := q2
    rw [q2'] at hs
    refine wpList_copy_nothing hgd d s 114 114 ho 39 Tryz.underlying114 hi _ _ dLen dCap 0 sCap hd hs (Nat.zero_min _) ?_
    refine h w ?_ (But.refl g w)
    have e : splice os off ([] : List Nat) = os := by simp [splice]
    rw [e]; exact hown
  · obtain ⟨ad, hA, hb, hne, hcell⟩ := hr h0
    have hh0 : w.ownsRow base 39 1 (.slice (some ⟨g, 0, none⟩) n c) os.length (L64 os) := hown
    rcases hh0.2 with ⟨h1, _⟩ | ⟨g', cap, cur, h1, hg, hh, h2, h3, h4, h5⟩
    · cases h1
    · injection h1 with e1 e2 e3
      injection e1 with e1
      injection e1 with e1
      subst e1
      have hcur : cur.toList = L64 os ++ cur.toList.drop os.length := by
        conv => lhs; rw [← List.take_append_drop os.length cur.toList]
        rw [← h5, Nat.mul_one]
      have hsz : os.length ≤ cur.size := by omega
      refine wpList_copy_own hgd d s 114 114 ho 39 Tryz.underlying114 hi g off dLen dCap ad sLen sCap hd (by rw [hs, q1, hA]) cur 39 hh (L64 xs) (by rw [hlen, ← q2]; exact (Nat.min_eq_left hle).symm) ?_ (by rw [hlen]; omega) (by intro u hu; obtain ⟨z, _, rfl⟩ := List.mem_map.1 hu; rfl) ?_
      · intro j u hj
        have hjl : j < xs.length := by
          rcases Nat.lt_or_ge j xs.length with h | h
          · exact h
          · rw [List.getElem?_eq_none (by rw [L64_length]; exact h)] at hj; cases hj
        rw [hcell j hjl, ← L64_get xs hjl, hj]
      · rw [hlen]
        have e : cur.toList.take off ++ (L64 xs ++ cur.toList.drop (off + xs.length)) = L64 (splice os off xs) ++ cur.toList.drop os.length := by
          rw [← L64_splice os xs off _ (by omega), ← hcur]
          unfold splice
          rw [hlen]
        have hsl := splice_len os xs off (by omega)
        refine h _ ?_ ⟨rfl, rfl, rfl, by simp [World.setRow], fun k hk hne => setRow_other w g k _ (fun e => hne (by rw [e]))⟩
        refine ⟨by rw [L64_length, Nat.mul_one], .inr ⟨g, cap, _, by rw [e2, e3, hsl], hg, setRow_heap w g _ _ _ _ hh, by rw [hsl]; exact h2, h3, ?_, ?_⟩⟩
        · rw [e, List.size_toArray, List.length_append, L64_length, hsl, List.length_drop, Array.length_toList (xs := cur)]
          omega
        · rw [e, Nat.mul_one, List.take_append_of_le_length (by rw [L64_length]; exact Nat.le_refl _), ← L64_length (splice os off xs), List.take_length]

set_option maxRecDepth 100000 in
set_option maxHeartbeats 2000000 in
/-- The sum, in a word more than the longer one has. -/
theorem sum_calls (w : World) (q : Nat) (va vb : Value) (as_ bs : List Nat) (ha : V q w va as_) (hb : V q w vb bs) (m : Nat) (hm : max as_.length bs.length + 1 = m) (hm1 : m ≤ 100000) :
    Calls Tryz.prog 122 #[va, vb] w fun e w' => e = .returned (.slice (some ⟨w.heap.size, 0, none⟩) m m) ∧ (∃ o, Ow w' w.heap.size (.slice (some ⟨w.heap.size, 0, none⟩) m m) o ∧ wal o = wal as_ + wal bs ∧ (∀ x ∈ o, x < 18446744073709551616) ∧ o.length = m) ∧ Ext w w' := by
  have la := ha.lim
  have lb' := hb.lim
  have wa := wal_lt as_ la
  have wb := wal_lt bs lb'
  obtain ⟨A, ca, rfl, hca⟩ := ha.shape
  obtain ⟨A2, cb, rfl, hcb⟩ := hb.shape
  obtain ⟨na, hna⟩ : ∃ na, as_.length = na := ⟨_, rfl⟩
  obtain ⟨nb, hnb⟩ : ∃ nb, bs.length = nb := ⟨_, rfl⟩
  have HNA := Lib.hid hna
  have HNB := Lib.hid hnb
  rw [hna] at ha hca hm wa ⊢
  rw [hnb] at hb hcb hm wb ⊢
  obtain ⟨i0, hi, hz0, hz1, hz2⟩ := info_parts info64
  obtain ⟨m1, hm1'⟩ : ∃ m1, max na nb = m1 := ⟨_, rfl⟩
  have hmi : (if (na : Int) < (nb : Int) then (nb : Int) else (na : Int)) = (m1 : Int) := by split <;> omega
  have hmi2 : (if na < nb then (nb : Int) else (na : Int)) = (m1 : Int) := by split <;> omega
  have hmi3 : max (na : Int) (nb : Int) = (m1 : Int) := by omega
  have hmi4 : (m1 : Int) + 1 = (m : Int) := by omega
  have hm1a : na < m := by omega
  have hm1b : nb < m := by omega
  have hfit : BB ^ na + BB ^ nb ≤ BB ^ m := by
    have h1 : BB ^ na ≤ BB ^ (m - 1) := Nat.pow_le_pow_right (by decide) (by omega)
    have h2 : BB ^ nb ≤ BB ^ (m - 1) := Nat.pow_le_pow_right (by decide) (by omega)
    have h3 : BB ^ m = BB ^ (m - 1) * BB := by rw [← Nat.pow_succ]; congr 1; omega
    rw [h3]
    unfold BB at *
    omega
  have HW : Hid (wal as_ + wal bs < BB ^ m) := by rw [Hid]; omega
  obtain ⟨B, hB⟩ : ∃ B, w.heap.size = B := ⟨_, rfl⟩
  clear wa wb hfit hna hnb hm
  rw [hB]
  have HBS := Lib.hid hB
  go_enter Tryz.func122, Tryz.ntmps122
  go_wp2_with (first
    | (at_make; refine wpList_make_full _ rfl _ _ 114 rfl w.heap.size 39 i0 (.int .u64 0) 1 Tryz.underlying114 hi hz0 hz1 _ _ _ _ m rfl rfl (by omega) (by omega) (by rw [hz2]; omega) (by unfold maxLen; omega) (Nat.le_refl _) ?_; intro w1 hown hgrow; have ho0 := Ow.zeros hown; rw [hB] at ho0; have hE0 : Ext w w1 := (Ext.refl w).grown hgrow (Nat.le_refl _) (fun _ h => by cases h); have ha1 := (ha.new (g := B) (by omega)).below hE0; have hb1 := (hb.new (g := B) (by omega)).below hE0; clear hown hgrow)
    | (refine wpList_copyW (o := ⟨some 15, _, _, _, _, _⟩) rfl (.tmp 13) (.tmp 14) rfl B 0 m m A na ca rfl rfl B m m (List.replicate m 0) ho0 as_ ha1 (by omega) (by omega) ?_; intro w2 hown2 hbut2)
    | fail)
  have hsp := wal_splice (List.replicate m 0) as_ 0 (by simp; rw [HNA.out]; omega) (fun j _ _ => lb_zeros m j)
  have hsl := splice_lt (List.replicate m 0) as_ 0 (fun x hx => by simp at hx; omega) la
  have hb2 := hb1.but hbut2
  refine (addTo_calls w2 B B m m 0 m m _ bs _ hown2 hsl (by omega) (Nat.le_refl _) (by omega) hb2 (by rw [HNB.out]; omega)).mono ?_
  rintro e w3 ⟨⟨o', cy, rfl, HA, hown3⟩, hB3⟩
  have hval := HA.val
  rw [hsp, wal_zeros, Nat.pow_zero, Nat.one_mul, Nat.one_mul, Nat.zero_add, Nat.zero_add] at hval
  have hcy : cy = 0 := by
    have h1 := HW.out
    rcases Nat.eq_zero_or_pos cy with h | h
    · exact h
    · have : cy = 1 := by have := HA.cy1; omega
      subst this
      omega
  rw [hcy, Nat.mul_zero, Nat.add_zero] at hval
  have HF : Hid (∃ o, Ow w3 B (.slice (some ⟨B, 0, none⟩) m m) o ∧ wal o = wal as_ + wal bs ∧ (∀ x ∈ o, x < 18446744073709551616) ∧ o.length = m) := ⟨o', hown3, hval, HA.lt, HA.len⟩
  have hE3 : Ext w w3 := (hE0.but hbut2 (by omega)).but hB3 (by omega)
  clear hval hown3 hown2 HA hB3 hbut2 hsp hsl ha1 hb1 hb2 hE0 ho0 hcy
  go_wp2
  go_ret
  exact ⟨rfl, HF.out, hE3⟩

/-- No more than n words. -/
theorem fit_calls (w : World) (A : Option Addr) (l c n k : Nat) (hl : l ≤ c) (hk : min n l = k) (hn : n ≤ 1000000) :
    Calls Tryz.prog 124 #[.slice A l c, .int .i64 (n : Nat)] w fun e w' => e = .returned (.slice A k c) ∧ w = w' := by
  have hki : (if (l : Int) < (n : Int) then (l : Int) else (n : Int)) = (k : Int) := by split <;> omega
  have hki2 : (if l < n then (l : Int) else (n : Int)) = (k : Int) := by split <;> omega
  have hki3 : min (n : Int) (l : Int) = (k : Int) := by omega
  have hkl : k ≤ c := by omega
  clear hk
  go_enter Tryz.func124, Tryz.ntmps124
  go_wp2
  go_ret
  exact ⟨rfl, rfl⟩
end Go.Proofs.YtigdflfhepelaaaGreatDoor
/- Rows of words multiplied, word by word. -/
namespace Go.Proofs.YtigdflfhepelaaaGreatDoor
open Go.RowKit
set_option linter.unusedVariables false
set_option maxHeartbeats 400000

theorem sq64 {x y : Nat} (hx : x < 18446744073709551616) (hy : y < 18446744073709551616) : x * y ≤ 340282366920938463426481119284349108225 := by
  calc x * y ≤ 18446744073709551615 * 18446744073709551615 := Nat.mul_le_mul (by omega) (by omega)
    _ = _ := by decide
theorem row_math (t z cr hi lo s1 c1 s2 c2 : Nat) (ht : t ≤ 340282366920938463426481119284349108225) (hz : z < 18446744073709551616) (hc : cr < 18446744073709551616)
    (h1 : t / 18446744073709551616 = hi) (h2 : t % 18446744073709551616 = lo) (h3 : (lo + z) % 18446744073709551616 = s1) (h4 : (lo + z) / 18446744073709551616 = c1)
    (h5 : (s1 + cr) % 18446744073709551616 = s2) (h6 : (s1 + cr) / 18446744073709551616 = c2) : z + t + cr = s2 + BB * (hi + c1 + c2) ∧ hi + c1 + c2 < 18446744073709551616 ∧ c1 ≤ 1 ∧ c2 ≤ 1 ∧ s1 < 18446744073709551616 ∧ s2 < 18446744073709551616 ∧ lo < 18446744073709551616 := by
  unfold BB
  have e1 : t = 18446744073709551616 * hi + lo := by omega
  have e2 : lo + z = 18446744073709551616 * c1 + s1 := by omega
  have e3 : s1 + cr = 18446744073709551616 * c2 + s2 := by omega
  have b1 : lo < 18446744073709551616 := by omega
  have b2 : s1 < 18446744073709551616 := by omega
  have b3 : s2 < 18446744073709551616 := by omega
  clear h1 h2 h3 h4 h5 h6
  refine ⟨by omega, by omega, by omega, by omega, b2, b3, b1⟩

/-- The first i words, times y, are added. -/
structure RwI (o0 : List Nat) (n off : Nat) (A : Nat) (i : Nat) (o : List Nat) (cy : Nat) : Prop where
  len : o.length = n
  lt : ∀ x ∈ o, x < 18446744073709551616
  cy1 : cy < 18446744073709551616
  val : wal o + BB ^ (off + i) * cy = A
  out : ∀ m, off + i ≤ m → lb o m = lb o0 m
theorem RwI.step {o0 : List Nat} {n off A i : Nat} {o : List Nat} {cy : Nat} (h : RwI o0 n off A i o cy) (hi : off + i < n) (t s d : Nat)
    (hs : lb o (off + i) + t + cy = s + BB * d) (hsb : s < 18446744073709551616) (hd : d < 18446744073709551616) : RwI o0 n off (A + BB ^ (off + i) * t) (i + 1) (o.set (off + i) s) d := by
  refine ⟨by simp [h.len], set_lt h.lt hsb, hd, ?_, fun m hm => ?_⟩
  · rw [← Nat.add_assoc, Nat.pow_succ]
    exact wadd_step _ _ _ _ _ _ _ _ _ (wal_set o (off + i) s (by rw [h.len]; exact hi)) h.val hs
  · rw [lb_set_other _ (by omega)]; exact h.out m (by omega)

set_option maxRecDepth 100000 in
set_option maxHeartbeats 4000000 in
theorem row_calls (w : World) (g base n c off zc : Nat) (o as_ : List Nat) (va : Value) (yv : Nat) (hyv : yv < 18446744073709551616) (hown : Ow w base (.slice (some ⟨g, 0, none⟩) n c) o) (ho : ∀ x ∈ o, x < 18446744073709551616)
    (na : Nat) (hna : as_.length = na) (hz : off + na + 1 ≤ n) (hzc : na + 1 ≤ zc) (hn : n ≤ 1000000) (ha : V g w va as_) (h0 : lb o (off + na) = 0) :
    Calls Tryz.prog 107 #[.slice (some ⟨g, off, none⟩) (na + 1 : Nat) zc, va, .int .u64 (yv : Nat)] w fun e w' => e = .returned (.tuple #[]) ∧ (∃ o', Ow w' base (.slice (some ⟨g, 0, none⟩) n c) o' ∧ wal o' = wal o + BB ^ off * (wal as_ * yv) ∧ (∀ x ∈ o', x < 18446744073709551616) ∧ ∀ m, off + na < m → lb o' m = lb o m) ∧ But g w w' := by
  have hlim := ha.lim
  obtain ⟨A, ca, rfl, ⟨hca, hma⟩, hx, hr⟩ := id ha
  have hcap := hown.caps
  have hgb := hown.block.2
  have HN := Lib.hid hna
  have H0 := Lib.hid h0
  have HS : Hid (RwI o n off (wal o + BB ^ off * (wal (as_.take 0) * yv)) 0 o 0) := ⟨hcap.1.symm, ho, by decide, by simp [wal], fun m _ => rfl⟩
  have HTK := Lib.hid (fun k => wal_take_succ as_ k)
  have HT2 : Hid (as_.take na = as_) := by rw [Hid, ← hna]; exact List.take_length
  rw [hna] at hca hma hr ⊢
  have hB0 := But.refl g w
  have hnai : ((na + 1 : Nat) : Int) = (na : Int) + 1 := by omega
  clear ha hna hcap ho h0
  go_enter Tryz.func107, Tryz.ntmps107
  go_wp2
  go_loopw [20, 6] (fun t s wr => ∃ (i : Nat) (o' : List Nat) (cy : Nat), i ≤ na ∧ t = .int .i64 (i : Nat) ∧ s = .int .u64 (cy : Nat) ∧ Hid (RwI o n off (wal o + BB ^ off * (wal (as_.take i) * yv)) i o' cy) ∧ Ow wr base (.slice (some ⟨g, 0, none⟩) n c) o' ∧ But g w wr) (fun t _ _ => na - (intOf t).toNat)
  case atStart => exact ⟨0, o, 0, Nat.zero_le _, rfl, rfl, HS, hown, hB0⟩
  case round =>
    clear HS hown hB0
    obtain ⟨i, o', cy, hi, rfl, rfl, HO, hown, hB⟩ := hrel
    by_cases hlt : i < na
    · obtain ⟨ad, rfl, hb, hne, hcell⟩ := hr (by omega)
      have hc0 := (hB.cell (p := ad.add i) (by rw [addr_add_block]; exact hb) (by rw [addr_add_block]; exact hne)).trans (hcell i hlt)
      have hy : lb as_ i < 18446744073709551616 := lb_lt_of (by decide) hx i
      have htk := HTK.out i (by rw [HN.out]; exact hlt)
      have hcz := hown.cell (j := off + i) (by omega)
      have hf := hown.frozen (off + i)
      have hx1 : lb o' (off + i) < 18446744073709551616 := lb_lt_of (by decide) HO.out.lt _
      have hcy := HO.out.cy1
      obtain ⟨x, hxx⟩ : ∃ x, lb as_ i = x := ⟨_, rfl⟩
      rw [hxx] at hc0 hy htk
      obtain ⟨z, hzz⟩ : ∃ z, lb o' (off + i) = z := ⟨_, rfl⟩
      rw [hzz] at hcz hx1
      obtain ⟨t, ht⟩ : ∃ t, x * yv = t := ⟨_, rfl⟩
      have ht1 : t ≤ 340282366920938463426481119284349108225 := by rw [← ht]; exact sq64 hy hyv
      obtain ⟨hi_, hhi⟩ : ∃ hi_, t / 18446744073709551616 = hi_ := ⟨_, rfl⟩
      obtain ⟨lo, hlo⟩ : ∃ lo, t % 18446744073709551616 = lo := ⟨_, rfl⟩
      obtain ⟨s1, hs1⟩ : ∃ s1, (lo + z) % 18446744073709551616 = s1 := ⟨_, rfl⟩
      obtain ⟨c1, hc1⟩ : ∃ c1, (lo + z) / 18446744073709551616 = c1 := ⟨_, rfl⟩
      obtain ⟨s2, hs2⟩ : ∃ s2, (s1 + cy) % 18446744073709551616 = s2 := ⟨_, rfl⟩
      obtain ⟨c2, hc2⟩ : ∃ c2, (s1 + cy) / 18446744073709551616 = c2 := ⟨_, rfl⟩
      obtain ⟨hm, hd1, hk1, hk2, hb1, hb2, hlo1⟩ := row_math t z cy hi_ lo s1 c1 s2 c2 ht1 hx1 hcy hhi hlo hs1 hc1 hs2 hc2
      have hst := HO.out.step (by omega) t s2 (hi_ + c1 + c2) (by rw [hzz]; exact hm) hb2 hd1
      rw [Nat.add_assoc (wal o), Nat.pow_add, Nat.mul_assoc, ← Nat.mul_add, ← ht, ← Nat.mul_assoc, ← Nat.add_mul, ← htk] at hst
      have HST := Lib.hid hst
      have hown2 := hown.set_ (off + i) s2
      have hB2 := hB.setCell (off + i) (.int .u64 (s2 : Nat))
      have hMul : Hid (∀ W, Calls Tryz.prog 116 #[.int .u64 (x : Nat), .int .u64 (yv : Nat)] W fun e w' => e = .returned (.tuple #[.int .u64 (hi_ : Nat), .int .u64 (lo : Nat)]) ∧ w' = W) := by
        intro W
        have := mul64_calls x yv hy hyv W
        rw [ht, hhi, hlo] at this
        exact this
      have hadd1 : ∀ w, (callFunc 110 #[.int .u64 (lo : Nat), .int .u64 (z : Nat), .int .u64 0]).run Tryz.prog w = .ok (.value (.tuple #[.int .u64 (s1 : Nat), .int .u64 (c1 : Nat)])) w := run_addc lo z 0 s1 c1 (Nat.zero_le _) hs1 hc1
      have hadd2 : ∀ w, (callFunc 110 #[.int .u64 (s1 : Nat), .int .u64 (cy : Nat), .int .u64 0]).run Tryz.prog w = .ok (.value (.tuple #[.int .u64 (s2 : Nat), .int .u64 (c2 : Nat)])) w := run_addc s1 cy 0 s2 c2 (Nat.zero_le _) hs2 hc2
      have hw1 : IntKind.u64.wrap ((hi_ : Int) + (c1 : Int)) = (hi_ : Int) + (c1 : Int) := by rw [IntKind.wrap_u64]; omega
      have hw2 : IntKind.u64.wrap ((hi_ : Int) + (c1 : Int) + (c2 : Int)) = (hi_ : Int) + (c1 : Int) + (c2 : Int) := by rw [IntKind.wrap_u64]; omega
      obtain ⟨d, hd⟩ : ∃ d, hi_ + c1 + c2 = d := ⟨_, rfl⟩
      have hdi : (hi_ : Int) + (c1 : Int) + (c2 : Int) = (d : Int) := by omega
      rw [hd] at HST hd1
      clear hst htk hxx hzz ht hhi hlo hs1 hc1 hs2 hc2 hm hown hB HO hd ht1
      go_wp2_with (fail)
      refine (hMul.out _).mono ?_
      rintro e w' ⟨rfl, rfl⟩
      clear hMul
      go_wp2
      go_roundw
      case rel => exact ⟨i + 1, _, d, by omega, by go_num, rfl, HST, hown2, hB2⟩
      case measure => simp [intOf]; omega
    · obtain rfl : i = na := by omega
      rw [HT2.out] at HO
      have hcz := hown.cell (j := off + i) (by omega)
      have hf := hown.frozen (off + i)
      have hown2 := hown.set_ (off + i) cy
      have hB2 := hB.setCell (off + i) (.int .u64 (cy : Nat))
      have hl0 : lb o' (off + i) = 0 := by rw [HO.out.out _ (Nat.le_refl _)]; exact H0.out
      have hws := wal_set o' (off + i) cy (by rw [HO.out.len]; omega)
      rw [hl0, Nat.mul_zero, Nat.add_zero, HO.out.val] at hws
      have hcz' : (Value.int .u64 (lb o' (off + i) : Nat)) = .int .u64 0 := by rw [hl0]; rfl
      rw [hcz'] at hcz
      have HF : Hid (∃ o2, Ow (wr.setCell ⟨g, off + i, none⟩ (.int .u64 (cy : Nat))) base (.slice (some ⟨g, 0, none⟩) n c) o2 ∧ wal o2 = wal o + BB ^ off * (wal as_ * yv) ∧ (∀ x ∈ o2, x < 18446744073709551616) ∧ ∀ m, off + i < m → lb o2 m = lb o m) :=
        ⟨_, hown2, hws, set_lt HO.out.lt HO.out.cy1, fun m hm => by rw [lb_set_other _ (by omega)]; exact HO.out.out m (by omega)⟩
      have hii : (i : Int) < ((i + 1 : Nat) : Int) := by omega
      have hii2 : (i : Int) < (i : Int) + 1 := by omega
      clear hl0 hws hcz' hown hown2 HO hB hr
      go_wp2
      go_end0
      exact ⟨rfl, HF.out, hB2⟩

/-- The product of the first i words is there, and nothing behind it. -/
structure RsI (as_ bs : List Nat) (n : Nat) (i : Nat) (o : List Nat) : Prop where
  len : o.length = n
  lt : ∀ x ∈ o, x < 18446744073709551616
  val : wal o = wal as_ * wal (bs.take i)
  out : ∀ m, i + as_.length ≤ m → lb o m = 0

/-- What a way to multiply answers: a row of its own with as many words as both. -/
def Prod (w w' : World) (x : Ending) (na nb : Nat) (as_ bs : List Nat) : Prop :=
  ∃ g c o, x = .returned (.slice (some ⟨g, 0, none⟩) (na + nb) c) ∧ Ow w' w.heap.size (.slice (some ⟨g, 0, none⟩) (na + nb) c) o ∧ wal o = wal as_ * wal bs ∧ ∀ x ∈ o, x < 18446744073709551616

set_option maxRecDepth 100000 in
set_option maxHeartbeats 4000000 in
theorem rows_calls (w : World) (q1 q2 : Nat) (va vb : Value) (as_ bs : List Nat) (ha : V q1 w va as_) (hb : V q2 w vb bs) (na nb : Nat) (hna : as_.length = na) (hnb : bs.length = nb) (hm : na + nb ≤ 100000) :
    Calls Tryz.prog 87 #[va, vb] w fun e w' => Prod w w' e na nb as_ bs ∧ Ext w w' := by
  have hxb := hb.lim
  obtain ⟨A, ca, rfl, hca⟩ := ha.shape
  obtain ⟨A2, cb, rfl, ⟨hcb, hmb⟩, hx2, hr⟩ := id hb
  have HNA := Lib.hid hna
  have HNB := Lib.hid hnb
  rw [hna] at ha hca ⊢
  rw [hnb] at hb hcb hr hmb ⊢
  obtain ⟨i0, hi, hz0, hz1, hz2⟩ := info_parts info64
  obtain ⟨n, hn⟩ : ∃ n, na + nb = n := ⟨_, rfl⟩
  have hni : (na : Int) + (nb : Int) = (n : Int) := by omega
  obtain ⟨B, hB⟩ : ∃ B, w.heap.size = B := ⟨_, rfl⟩
  have HBS := Lib.hid hB
  have HTK := Lib.hid (fun k => wal_take_succ bs k)
  have HT2 : Hid (bs.take nb = bs) := by rw [Hid, ← hnb]; exact List.take_length
  unfold Prod
  rw [hB, hn]
  clear hna hnb
  go_enter Tryz.func87, Tryz.ntmps87
  go_wp2_with (at_make; refine wpList_make_full _ rfl _ _ 114 rfl w.heap.size 39 i0 (.int .u64 0) 1 Tryz.underlying114 hi hz0 hz1 _ _ _ _ n rfl rfl (by omega) (by omega) (by rw [hz2]; omega) (by unfold maxLen; omega) (Nat.le_refl _) ?_; intro w1 hown hgrow)
  have ho0 := Ow.zeros hown
  have hE0 : Ext w w1 := (Ext.refl w).grown hgrow (Nat.le_refl _) (fun _ h => by cases h)
  rw [hB] at ho0
  have ha1 := (ha.new (g := B) (by omega)).below hE0
  have hne : ∀ ad, A2 = some ad → 0 < nb → ad.block ≠ B := fun ad e h0 => by
    obtain ⟨ad', e', hb', _⟩ := hr h0
    rw [e'] at e
    injection e with e
    subst e; omega
  clear hown hgrow hi hz0 hz1 hz2 i0 ha hb
  go_wp2
  go_loopw [16] (fun t wr => ∃ (i : Nat) (o : List Nat), i ≤ nb ∧ t = .int .i64 (i : Nat) ∧ Hid (RsI as_ bs n i o) ∧ Ow wr B (.slice (some ⟨B, 0, none⟩) n n) o ∧ Ext w wr ∧ V B wr (.slice A na ca) as_) (fun t _ => nb - (intOf t).toNat)
  case atStart => exact ⟨0, _, Nat.zero_le _, rfl, ⟨by simp, fun x hx => by simp at hx; omega, by simp [wal_zeros, wal], fun m _ => lb_zeros _ _⟩, ho0, hE0, ha1⟩
  case round =>
    clear ho0 hE0 ha1
    obtain ⟨i, o, hib, rfl, HO, hown, hE, hav⟩ := hrel
    by_cases hlt : i < nb
    · obtain ⟨ad, rfl, hbk, hnq, hcell⟩ := hr (by omega)
      have hc0 := (hE.cell (p := ad.add i) (by rw [addr_add_block]; exact hbk)).trans (hcell i hlt)
      have hy : lb bs i < 18446744073709551616 := lb_lt_of (by decide) hx2 i
      have htk := HTK.out i (by rw [HNB.out]; exact hlt)
      obtain ⟨y, hyy⟩ : ∃ y, lb bs i = y := ⟨_, rfl⟩
      rw [hyy] at hc0 hy htk
      have hRow := Lib.hid (row_calls wr B B n n i (n - i) o as_ _ y hy hown HO.out.lt na HNA.out (by omega) (by omega) (by omega) hav (HO.out.out _ (by rw [HNA.out]; exact Nat.le_refl _)))
      have hi1 : (i : Int) + (na : Int) + 1 ≤ (n : Int) := by omega
      have hi2 : (i : Int) ≤ (i : Int) + (na : Int) + 1 := by omega
      have hi3 : i ≤ n := by omega
      have hi4 : i + na + 1 - i = na + 1 := by omega
      have hi5 : ((i : Int) + (na : Int) + 1).toNat = i + na + 1 := by omega
      clear hyy
      go_wp2_with (fail)
      refine hRow.out.mono ?_
      rintro e w' ⟨rfl, ⟨o2, hown2, hv2, hl2, hout2⟩, hB2⟩
      have hE2 := hE.but hB2 (by omega)
      have hav2 := hav.but hB2
      have HST : Hid (RsI as_ bs n (i + 1) o2) := by
        refine ⟨hown2.caps.1.symm, hl2, ?_, fun m hm => ?_⟩
        · rw [htk, Nat.mul_add, ← HO.out.val, hv2, Nat.mul_left_comm]
        · rw [HNA.out] at hm
          rw [hout2 m (by omega)]; exact HO.out.out m (by rw [HNA.out]; omega)
      clear hRow hv2 hl2 hout2 hB2 hown HO hE hav htk
      go_wp2
      go_roundw
      case rel => exact ⟨i + 1, _, by omega, by go_num, HST, hown2, hE2, hav2⟩
      case measure => simp [intOf]; omega
    · obtain rfl : i = nb := by omega
      have HF : Hid (∃ g c o, Ending.returned (.slice (some ⟨B, 0, none⟩) n n) = .returned (.slice (some ⟨g, 0, none⟩) n c) ∧ Ow wr B (.slice (some ⟨g, 0, none⟩) n c) o ∧ wal o = wal as_ * wal bs ∧ ∀ x ∈ o, x < 18446744073709551616) :=
        ⟨B, n, o, rfl, hown, by rw [HO.out.val, HT2.out], HO.out.lt⟩
      clear hown HO hav
      go_wp2
      go_ret
      exact ⟨HF.out, hE⟩
end Go.Proofs.YtigdflfhepelaaaGreatDoor
