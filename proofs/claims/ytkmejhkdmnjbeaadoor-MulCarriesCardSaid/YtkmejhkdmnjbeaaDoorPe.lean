/- nat.Add. -/
import Derived.Test.YtkmejhkdmnjbeaaDoorPd
import Derived.Laws.Externs
import Derived.Shelf.Spec.BitsCarry
import Derived.Laws.CopyOwn

namespace Go.Proofs.YtkmejhkdmnjbeaaDoor
open Go.RowKit Go.Shelf
set_option linter.unusedVariables false
attribute [local go_sem] Oper.semAt_some
attribute [local go_sem ↓] app_shut
attribute [local go_sem] run_append_tok

set_option maxRecDepth 100000 in
set_option maxHeartbeats 4000000 in
theorem add_lt (w : World) (v u : Value) (xs ys : List Nat) (h : U w v xs) (g : U w u ys) (hl : ys.length < xs.length) (hm : xs.length ≤ 1000000000) :
    CallsIn Fence.wide 4 Tryd.prog 27 #[u, v] w fun e w' => (∃ z, e = .returned z ∧ Un w' z (val xs + val ys)) ∧ Below w.heap.size w w' := by
  obtain ⟨A, c, rfl, ⟨hc, _⟩, hx, hr⟩ := id h
  obtain ⟨A2, c2, rfl, ⟨hc2, _⟩, hx2, hr2⟩ := id g
  clear hr hr2
  have hl1 : decide (ys.length < xs.length) = true := by rw [decide_eq_true_iff]; omega
  have HL := Lib.hid (Nat.le_of_lt hl)
  clear hl
  obtain ⟨i0, hi, hz0, hz1, hz2⟩ := info_parts info35
  refine callsIn_of_wp_marks Tryd.func27 rfl trivial ?_ rfl
  simp only [Tryd.ntmps27, List.size_toArray, List.length_cons, List.length_nil, Nat.reduceAdd, Nat.reduceSub, Array.replicate_succ, Array.replicate_zero, List.push_toArray, List.append_toArray, List.nil_append, List.cons_append]
  gi_wp2_with (first | (gi_at_make; refine wpListIn_make_own _ rfl _ _ 22 rfl w.heap.size 35 i0 (.int .u32 0) 1 Tryd.underlying22 hi hz0 hz1 _ _ _ (xs.length + 1) rfl rfl (by omega) (by rw [hz2]; omega) (by unfold maxLen; omega) (Nat.le_refl _) ?_; intro w1 hown hgrow) | (refine ⟨trivial, ?_⟩; gi_at_call 48; refine (callsIn_wide.2 (adder_calls _)).mono ?_; rintro e w' ⟨rfl, rfl⟩) | (refine ⟨trivial, ?_⟩; gi_at_call 49; refine (callsIn_wide.2 (pairs_calls _ _ _ _ _ _ _)).mono ?_; rintro e w' ⟨rfl, rfl⟩))
  obtain ⟨B, hB⟩ : ∃ B, w1.heap.size = B := ⟨_, rfl⟩
  obtain ⟨W0, hW0⟩ : ∃ W0, (((((w1.alloc (.cells #[.slice (some ⟨w.heap.size, 0, none⟩) 0 (xs.length + 1)] 22)).alloc (.cells #[.int .u32 0] 35)).alloc (.cells #[.func (.func 62) #[] #[.pointer (some ⟨w1.heap.size + 1, 0, none⟩)]] 65)).alloc (.cells #[.slice A xs.length c] 22)).alloc (.cells #[.slice A2 ys.length c2] 22)) = W0 := ⟨_, rfl⟩
  have hB1 : Below w.heap.size w w1 := (Below.refl _ _).grown hgrow (Nat.le_refl _) (fun _ h => by cases h)
  have hB1s := hB1.size
  have hB0 : Below w.heap.size w W0 := by
    rw [← hW0]
    exact ((((hB1.alloc (by omega) _).alloc (by simp; omega) _).alloc (by simp; omega) _).alloc (by simp; omega) _).alloc (by simp; omega) _
  have hsz : W0.heap.size = B + 5 := by rw [← hW0, ← hB]; simp
  have b0 : Boxed W0 B 22 (.slice (some ⟨w.heap.size, 0, none⟩) 0 (xs.length + 1)) := by
    rw [← hW0, ← hB]; exact ((((Boxed.new w1 22 _).alloc _).alloc _).alloc _).alloc _
  have b1 : Boxed W0 (B + 1) 35 (.int .u32 0) := by
    rw [← hW0, ← hB]
    have := ((((Boxed.new (w1.alloc (.cells #[.slice (some ⟨w.heap.size, 0, none⟩) 0 (xs.length + 1)] 22)) 35 (.int .u32 0)).alloc (.cells #[.func (.func 62) #[] #[.pointer (some ⟨w1.heap.size + 1, 0, none⟩)]] 65)).alloc (.cells #[.slice A xs.length c] 22)).alloc (.cells #[.slice A2 ys.length c2] 22))
    simpa using this
  have b2 : Boxed W0 (B + 2) 65 (.func (.func 62) #[] #[.pointer (some ⟨B + 1, 0, none⟩)]) := by
    rw [← hW0, ← hB]
    have := (((Boxed.new ((w1.alloc (.cells #[.slice (some ⟨w.heap.size, 0, none⟩) 0 (xs.length + 1)] 22)).alloc (.cells #[.int .u32 0] 35)) 65 (.func (.func 62) #[] #[.pointer (some ⟨w1.heap.size + 1, 0, none⟩)])).alloc (.cells #[.slice A xs.length c] 22)).alloc (.cells #[.slice A2 ys.length c2] 22))
    simpa using this
  have b3 : Boxed W0 (B + 3) 22 (.slice A xs.length c) := by
    rw [← hW0, ← hB]
    have := ((Boxed.new (((w1.alloc (.cells #[.slice (some ⟨w.heap.size, 0, none⟩) 0 (xs.length + 1)] 22)).alloc (.cells #[.int .u32 0] 35)).alloc (.cells #[.func (.func 62) #[] #[.pointer (some ⟨w1.heap.size + 1, 0, none⟩)]] 65)) 22 (.slice A xs.length c)).alloc (.cells #[.slice A2 ys.length c2] 22))
    simpa using this
  have b4 : Boxed W0 (B + 4) 22 (.slice A2 ys.length c2) := by
    rw [← hW0, ← hB]
    have := (Boxed.new ((((w1.alloc (.cells #[.slice (some ⟨w.heap.size, 0, none⟩) 0 (xs.length + 1)] 22)).alloc (.cells #[.int .u32 0] 35)).alloc (.cells #[.func (.func 62) #[] #[.pointer (some ⟨w1.heap.size + 1, 0, none⟩)]] 65)).alloc (.cells #[.slice A xs.length c] 22)) 22 (.slice A2 ys.length c2))
    simpa using this
  have hown0 : Own W0 w.heap.size (.slice (some ⟨w.heap.size, 0, none⟩) ([] : List Nat).length (xs.length + 1)) [] := by
    rw [← hW0]; exact ((((World.ownsRow.alloc hown _).alloc _).alloc _).alloc _).alloc _
  have hS0 : SumAt w B w.heap.size (xs.length + 1) 62 [] 0 W0 := ⟨b0, hown0, b1, b2, hB0, by omega⟩
  have hBw : w.heap.size < B := by have := (World.ownsRow.lt hown w.heap.size rfl).2; omega
  have hWr : Boxed W0 B 22 (.slice (some ⟨w.heap.size, 0, none⟩) 0 (xs.length + 1)) := b0
  rw [hW0]
  rw [hB]
  clear hW0 b0 b1 b2 hown0 hown hgrow hB1 hB1s hWr hB
  refine wpIn_rangeFunc_ownG rfl (by omega) (gf := 64) (lb := #[.pointer (some ⟨B + 4, 0, none⟩), .pointer (some ⟨B + 3, 0, none⟩)]) rfl trivial (enters_of Tryd.func64 (by kernel_rfl) rfl)
    (pairs_stops (B + 3) (B + 4) _ _ xs ys w W0 hB0 HL.out (by omega) (by omega) b3 b4 h g) KpP.trans (kpP_b (by omega) (by omega) (by omega)) (Below.refl _ _) (fun _ => rfl)
    (fun pre W => ∃ o cy, Hid (AddInv pre o cy) ∧ SumAt w B w.heap.size (xs.length + 1) 62 o cy W)
    (fun c pre W => False)
    (fun s X Y row hs hg hr => by obtain ⟨o, cy, ha, hs⟩ := hs; exact ⟨o, cy, ha, hs.grown hg (by omega) hr⟩)
    (fun c s X Y row hs hg hr => hs)
    ⟨[], 0, AddInv.start, hS0⟩
    (fun x => { tmps := #[.slice A xs.length c, .slice A2 ys.length c2, undef, undef, .slice none 0 0, .pointer (some ⟨B, 0, none⟩), .pointer (some ⟨B + 1 + 1, 0, none⟩), .int .u32 (x.1.1 : Int), .int .u32 (x.1.2 : Int), .slice A2 ys.length c2, .int .i64 (ys.length : Int), .slice A xs.length c, .int .i64 (xs.length : Int), .bool true, .slice A xs.length c, .slice A2 ys.length c2, .slice A xs.length c, .int .i64 (xs.length : Int), .int .i64 ((xs.length : Int) + 1), .slice (some ⟨w.heap.size, 0, none⟩) 0 (xs.length + 1), .func (.func 62) #[] #[.pointer (some ⟨B + 1, 0, none⟩)], .slice A xs.length c, .slice A2 ys.length c2, .func (.func 64) #[] #[.pointer (some ⟨B + 1 + 1 + 1 + 1, 0, none⟩), .pointer (some ⟨B + 1 + 1 + 1, 0, none⟩)], .int .u32 (x.1.1 : Int), .int .u32 (x.1.2 : Int), undef, undef, undef, undef, undef, undef, undef, undef, undef, undef, undef, undef, undef], defers := [] }) ?assign ?body ?done ?stop
  case assign =>
    intro l x W K hK
    gi_wp2
    exact hK
  case body =>
    rintro l pre x W ⟨o, cy, HA, hS⟩ hpl
    have hb0 := hS.box.cell
    have hf0 := hS.box.frozen
    have hb1 := hS.car.cell
    have hf1 := hS.car.frozen
    have hb2 := hS.fnc.cell
    have hmx : Tryd.prog.follows .mixedOrders = true := by kernel_rfl
    have hcy := HA.out.carry
    have hlen := HA.out.len
    have hol : o.length + 1 ≤ xs.length + 1 := by omega
    have HA2 := Lib.hid (HA.out.step x)
    obtain ⟨d, hd⟩ : ∃ d, (x.1.1 + x.1.2 + cy) % 4294967296 = d := ⟨_, rfl⟩
    obtain ⟨cz, hcz⟩ : ∃ d, (x.1.1 + x.1.2 + cy) / 4294967296 = d := ⟨_, rfl⟩
    have hcall := adder1_calls W.drew x.1.1 x.1.2 cy (B + 1) x.2.1 x.2.2 hcy hb1 hf1
    rw [hd, hcz] at hcall HA2
    obtain ⟨W1, hW1⟩ : ∃ W1, W.drew.setCell ⟨B + 1, 0, none⟩ (.int .u32 (cz : Nat)) = W1 := ⟨_, rfl⟩
    rw [hW1] at hcall
    have hsz1 : W1.heap.size = W.heap.size := by rw [← hW1]; simp [World.setCell]
    have hg1 : W.grownBy W1 (some (B + 1)) := by rw [← hW1]; have hq := grownBy_setCell' W.drew (B + 1) (.int .u32 (cz : Nat)); exact ⟨hq.os, hq.tape, hq.output, hq.size, hq.block⟩
    have hown1 : (W1.alloc (.cells #[.int .u32 (d : Nat)] 35)).ownsRow w.heap.size 35 1 (.slice (some ⟨w.heap.size, 0, none⟩) o.length (xs.length + 1)) o.length (L32 o) :=
      World.ownsRow.alloc (World.ownsRow.kept hS.own hg1 (.inr (by simp [Value.ownBlock]; omega))) _
    have hx0 := hS.box.kept hg1 (by intro e; injection e with e; omega)
    have hx2 := hS.fnc.kept hg1 (by intro e; injection e with e; omega)
    have hx1 : Boxed W1 (B + 1) 35 (.int .u32 (cz : Nat)) := by rw [← hW1]; exact Boxed.set (W := W.drew) _ hS.car
    have hxb : Below w.heap.size w W1 := hS.bel.grown hg1 hS.bel.size (fun k e => by injection e with e; omega)
    have hxW : Below w.heap.size W W1 := (Below.refl _ W).grown hg1 hS.bel.size (fun k e => by injection e with e; omega)
    have hko : KeepsOthers W W1 := by rw [← hW1]; exact (KeepsOthers.drew W).trans (KeepsOthers.setCell _ _ _)
    obtain ⟨W2, hrun, hown2, hgrow2⟩ := run_append_fits (P := Tryd.prog) (W1.alloc (.cells #[.int .u32 (d : Nat)] 35)) w.heap.size 22 22 35 i0 1 Tryd.underlying22 hi hz1 w.heap.size o.length (xs.length + 1) (L32 o) hown1
      ⟨W1.heap.size, 0, none⟩ 1 1 [.int .u32 (d : Nat)] rfl (by intro j u hj; cases j with | zero => simp at hj; subst hj; simp [Addr.add] | succ j => simp at hj) (by simp [Value.oneCell']) hol
    have hy0 := (hx0.alloc (.cells #[.int .u32 (d : Nat)] 35)).kept hgrow2 (by intro e; injection e with e; omega)
    have hy1 := (hx1.alloc (.cells #[.int .u32 (d : Nat)] 35)).kept hgrow2 (by intro e; injection e with e; omega)
    have hy2 := (hx2.alloc (.cells #[.int .u32 (d : Nat)] 35)).kept hgrow2 (by intro e; injection e with e; omega)
    have hyb : Below w.heap.size w W2 := (hxb.alloc hxb.size _).grown hgrow2 (by have := hxb.size; rw [World.size_alloc]; omega) (fun k e => by injection e with e; omega)
    have hyW : Below w.heap.size W W2 := (hxW.alloc hxb.size _).grown hgrow2 (by have := hxb.size; rw [World.size_alloc]; omega) (fun k e => by injection e with e; omega)
    have hkeep : ∀ k, k < W.heap.size → k ≠ B + 1 → k ≠ w.heap.size → W2.heap[k]? = W.heap[k]? := fun k h1 h2 h3 =>
      ((hgrow2.block k (by rw [World.size_alloc]; omega) (fun e => h3 (by injection e))).trans (Below.heap_alloc _ _ k (by omega))).trans (hg1.block k h1 (fun e => h2 (by injection e)))
    have hko2 : KeepsOthers W W2 := (hko.trans (KeepsOthers.alloc _ _)).trans (KeepsOthers.of_grownBy hgrow2 fun j ob ej hj => by
      cases ej
      rcases hown1.2 with ⟨h', _⟩ | ⟨g', cap', cur, h', _, hg, _⟩
      · cases h'
      · cases h'; rw [hg] at hj; cases hj; rfl)
    have hyc0 := hy0.cell
    have hxc0 := hx0.cell
    have hxc1 := (hx0.alloc (.cells #[.int .u32 (d : Nat)] 35)).cell
    have hyf0 := hy0.frozen
    have HW1 := Lib.hid hsz1
    obtain ⟨ht1, ht2, ht3⟩ := app_tok hrun
    clear hrun hW1 hsz1 hd hcz hg1 hlen
    gi_wp2
    gi_region_with_o ((refine ⟨trivial, ?_⟩; gi_at_call 62; refine (CallsIn.inRound l (callsIn_wide.2 hcall)).mono ?_; rintro e w' ⟨rfl, rfl⟩))
    all_goals gi_wp2
    all_goals
      have hsiz := hS.siz
      have hW2s := hko2.size
      have hset := grownBy_setCell' W2 B (.slice (some ⟨w.heap.size, 0, none⟩) (o.length + 1) (xs.length + 1))
      have hrow : (W2.setCell ⟨B, 0, none⟩ (.slice (some ⟨w.heap.size, 0, none⟩) (o.length + 1) (xs.length + 1))).ownsRow w.heap.size 35 1 (.slice (some ⟨w.heap.size, 0, none⟩) (o.length + 1) (xs.length + 1)) (o.length + 1) (L32 o ++ [.int .u32 (d : Nat)]) :=
        World.ownsRow.kept hown2 hset (.inr (by simp only [Value.ownBlock]; intro e; injection e with e; omega))
      refine ⟨(hko2.trans (KeepsOthers.setCell _ _ _)).from _, ⟨hyW.setCell (p := ⟨B, 0, none⟩) (Nat.le_of_lt hBw) _, ?_, ?_⟩, o ++ [d], cz, HA2.out, ?_, ?_, hy1.other (by omega) _, hy2.other (by omega) _, hyb.setCell (p := ⟨B, 0, none⟩) (Nat.le_of_lt hBw) _, ?_⟩
      · exact (hset.block (B + 3) (by omega) (fun e => by injection e with e; omega)).trans (hkeep (B + 3) (by omega) (by omega) (by omega))
      · exact (hset.block (B + 4) (by omega) (fun e => by injection e with e; omega)).trans (hkeep (B + 4) (by omega) (by omega) (by omega))
      · rw [List.length_append]; exact hy0.set _
      · unfold Own; rw [L32_append, List.length_append]; exact hrow
      · have := hset.size; omega
  case done =>
    rintro D l W hD hl ⟨o, cy, HA, hS⟩ hK
    have hb0 := hS.box.cell
    have hb1 := hS.car.cell
    have hf1 := hS.car.frozen
    have hb2 := hS.fnc.cell
    have hsiz := hS.siz
    have hmx : Tryd.prog.follows .mixedOrders = true := by kernel_rfl
    have hcy := HA.out.carry
    have hlen := HA.out.len
    have hdone := HA.out.done hl HL.out
    have hltl := snoc_lt HA.out.lt (show cy < 4294967296 by omega)
    have hol : o.length = xs.length := by rw [hlen]; have := congrArg List.length hl; simpa [pairsL] using this
    have hcall := adder1_calls W.drew 0 0 cy (B + 1) (by decide) (by decide) hcy hb1 hf1
    rw [show (0 + 0 + cy) % 4294967296 = cy by omega, show (0 + 0 + cy) / 4294967296 = 0 by omega, show (((0 : Nat)) : Int) = 0 from rfl] at hcall
    obtain ⟨W1, hW1⟩ : ∃ W1, W.drew.setCell ⟨B + 1, 0, none⟩ (.int .u32 0) = W1 := ⟨_, rfl⟩
    rw [hW1] at hcall
    have hsz1 : W1.heap.size = W.heap.size := by rw [← hW1]; simp [World.setCell]
    have hg1 : W.grownBy W1 (some (B + 1)) := by rw [← hW1]; have hq := grownBy_setCell' W.drew (B + 1) (.int .u32 0); exact ⟨hq.os, hq.tape, hq.output, hq.size, hq.block⟩
    have hown1 : (W1.alloc (.cells #[.int .u32 (cy : Nat)] 35)).ownsRow w.heap.size 35 1 (.slice (some ⟨w.heap.size, 0, none⟩) o.length (xs.length + 1)) o.length (L32 o) :=
      World.ownsRow.alloc (World.ownsRow.kept hS.own hg1 (.inr (by simp [Value.ownBlock]; omega))) _
    have hx0 := hS.box.kept hg1 (by intro e; injection e with e; omega)
    have hxb : Below w.heap.size w W1 := hS.bel.grown hg1 hS.bel.size (fun k e => by injection e with e; omega)
    have hko : KeepsOthers W W1 := by rw [← hW1]; exact (KeepsOthers.drew W).trans (KeepsOthers.setCell _ _ _)
    obtain ⟨W2, hrun, hown2, hgrow2⟩ := run_append_fits (P := Tryd.prog) (W1.alloc (.cells #[.int .u32 (cy : Nat)] 35)) w.heap.size 22 22 35 i0 1 Tryd.underlying22 hi hz1 w.heap.size o.length (xs.length + 1) (L32 o) hown1
      ⟨W1.heap.size, 0, none⟩ 1 1 [.int .u32 (cy : Nat)] rfl (by intro j u hj; cases j with | zero => simp at hj; subst hj; simp [Addr.add] | succ j => simp at hj) (by simp [Value.oneCell']) (by omega)
    have hyb : Below w.heap.size w W2 := (hxb.alloc hxb.size _).grown hgrow2 (by have := hxb.size; rw [World.size_alloc]; omega) (fun k e => by injection e with e; omega)
    have hko2 : KeepsOthers W W2 := (hko.trans (KeepsOthers.alloc _ _)).trans (KeepsOthers.of_grownBy hgrow2 fun j ob ej hj => by
      cases ej
      rcases hown1.2 with ⟨h', _⟩ | ⟨g', cap', cur, h', _, hg, _⟩
      · cases h'
      · cases h'; rw [hg] at hj; cases hj; rfl)
    have hK2 := hko2.same D _ hK rfl
    have hu : U W2 (.slice (some ⟨w.heap.size, 0, none⟩) (o.length + 1) (xs.length + 1)) (o ++ [cy]) := by
      refine Own.toU (base := w.heap.size) ?_ hltl (by rw [List.length_append, List.length_singleton]; omega)
      unfold Own; rw [L32_append, List.length_append]; exact hown2
    have hxc0 := hx0.cell
    have hxc1 := (hx0.alloc (.cells #[.int .u32 (cy : Nat)] 35)).cell
    obtain ⟨ht1, ht2, ht3⟩ := app_tok hrun
    have HD := Lib.hid hdone
    clear hrun hW1 hsz1 hg1 hlen hdone hol hl
    gi_wp2
    refine wpIn_normal ?_
    gi_region_with_o (first | (refine ⟨trivial, ?_⟩; gi_at_call 62; refine (callsIn_wide.2 hcall).mono ?_; rintro e w' ⟨rfl, rfl⟩) | (refine ⟨trivial, ?_⟩; gi_at_call 32; refine (callsIn_wide.2 (make_calls _ _ _ hu)).mono ?_; rintro e w' ⟨⟨z, rfl, hz⟩, rfl⟩))
    all_goals unfold NormalOnly
    all_goals gi_wp2
    all_goals
      refine ⟨by simp, .inl ⟨_, _, rfl, run_takeDeferred hK2, ?_⟩⟩
      refine ⟨_, results_tmp rfl _ _ _, ⟨_, rfl, ?_⟩, hyb.trans (belowK_b (w := w) (Nat.le_refl _) _ D _ _ (by omega) hK2 rfl rfl)⟩
      rw [HD.out] at hz
      exact hz.put hK2 rfl _
  case stop =>
    rintro D cc pre W hD _ h _
    exact h.elim

theorem nadd_calls (w : World) (v u : Value) (xs ys : List Nat) (h : U w v xs) (g : U w u ys) (hm : xs.length ≤ 1000000000) (hm2 : ys.length ≤ 1000000000) :
    Calls Tryd.prog 27 #[v, u] w fun e w' => (∃ z, e = .returned z ∧ Un w' z (val xs + val ys)) ∧ Below w.heap.size w w' := by
  rcases Nat.lt_or_ge xs.length ys.length with hl | hl
  · have := callsIn_wide.1 (add_lt w u v ys xs g h hl hm2)
    rwa [Nat.add_comm] at this
  · exact callsIn_wide.1 (add_ge w v u xs ys h g hl hm)
end Go.Proofs.YtkmejhkdmnjbeaaDoor
/- nat.Sub. -/
namespace Go.Proofs.YtkmejhkdmnjbeaaDoor
open Go.RowKit Go.Shelf
set_option linter.unusedVariables false
attribute [local go_sem] Oper.semAt_some
attribute [local go_sem ↓] app_shut
attribute [local go_sem] run_append_tok

set_option maxRecDepth 100000 in
set_option maxHeartbeats 4000000 in
theorem sub_ge (w : World) (v u : Value) (n m : Nat) (xs ys : List Nat) (hxs : limbs n = xs) (hys : limbs m = ys) (h : U w v xs) (g : U w u ys) (hl : ys.length ≤ xs.length) (hle : m ≤ n) (hm : xs.length ≤ 1000000000) :
    CallsIn Fence.wide 4 Tryd.prog 34 #[v, u] w fun e w' => (∃ z, e = .returned (.tuple #[z, .bool true]) ∧ Un w' z (n - m)) ∧ Below w.heap.size w w' := by
  obtain ⟨A, c, rfl, ⟨hc, _⟩, hx, hr⟩ := id h
  obtain ⟨A2, c2, rfl, ⟨hc2, _⟩, hx2, hr2⟩ := id g
  clear hr hr2
  have hcm : decide (cmpI n m < 0) = false := by
    rw [decide_eq_false_iff_not]
    unfold cmpI
    split
    · omega
    · split <;> omega
  have hvx : val xs = n := by rw [← hxs, val_limbs]
  have hvy : val ys = m := by rw [← hys, val_limbs]
  have hcall0 := cmp_calls w _ _ n m (by rw [Un, hxs]; exact h) (by rw [Un, hys]; exact g)
  have HXS := Lib.hid hvx
  have HYS := Lib.hid hvy
  have HLE := Lib.hid hle
  have HL := Lib.hid hl
  clear hl hle hvx hvy hxs hys
  obtain ⟨i0, hi, hz0, hz1, hz2⟩ := info_parts info35
  refine callsIn_of_wp_marks Tryd.func34 rfl trivial ?_ rfl
  simp only [Tryd.ntmps34, List.size_toArray, List.length_cons, List.length_nil, Nat.reduceAdd, Nat.reduceSub, Array.replicate_succ, Array.replicate_zero, List.push_toArray, List.append_toArray, List.nil_append, List.cons_append]
  gi_wp2_with (fail)
  refine ⟨trivial, ?_⟩
  refine (callsIn_wide.2 hcall0).mono ?_
  rintro e wc ⟨rfl, hBc⟩
  have h' := h.below hBc
  have g' := g.below hBc
  gi_wp2_with (first | (gi_at_make; refine wpListIn_make_own _ rfl _ _ 22 rfl wc.heap.size 35 i0 (.int .u32 0) 1 Tryd.underlying22 hi hz0 hz1 _ _ _ xs.length rfl rfl (by omega) (by rw [hz2]; omega) (by unfold maxLen; omega) (Nat.le_refl _) ?_; intro w1 hown hgrow) | (refine ⟨trivial, ?_⟩; gi_at_call 54; refine (callsIn_wide.2 (taker_calls _)).mono ?_; rintro e w' ⟨rfl, rfl⟩) | (refine ⟨trivial, ?_⟩; gi_at_call 49; refine (callsIn_wide.2 (pairs_calls _ _ _ _ _ _ _)).mono ?_; rintro e w' ⟨rfl, rfl⟩))
  obtain ⟨B, hB⟩ : ∃ B, w1.heap.size = B := ⟨_, rfl⟩
  obtain ⟨W0, hW0⟩ : ∃ W0, (((((w1.alloc (.cells #[.slice (some ⟨wc.heap.size, 0, none⟩) 0 xs.length] 22)).alloc (.cells #[.int .u32 0] 35)).alloc (.cells #[.func (.func 68) #[] #[.pointer (some ⟨w1.heap.size + 1, 0, none⟩)]] 65)).alloc (.cells #[.slice A xs.length c] 22)).alloc (.cells #[.slice A2 ys.length c2] 22)) = W0 := ⟨_, rfl⟩
  have hB1 : Below wc.heap.size wc w1 := (Below.refl _ _).grown hgrow (Nat.le_refl _) (fun _ h => by cases h)
  have hB1s := hB1.size
  have hB0 : Below wc.heap.size wc W0 := by
    rw [← hW0]
    exact ((((hB1.alloc (by omega) _).alloc (by simp; omega) _).alloc (by simp; omega) _).alloc (by simp; omega) _).alloc (by simp; omega) _
  have hsz : W0.heap.size = B + 5 := by rw [← hW0, ← hB]; simp
  have b0 : Boxed W0 B 22 (.slice (some ⟨wc.heap.size, 0, none⟩) 0 xs.length) := by
    rw [← hW0, ← hB]; exact ((((Boxed.new w1 22 _).alloc _).alloc _).alloc _).alloc _
  have b1 : Boxed W0 (B + 1) 35 (.int .u32 0) := by
    rw [← hW0, ← hB]
    have := ((((Boxed.new (w1.alloc (.cells #[.slice (some ⟨wc.heap.size, 0, none⟩) 0 xs.length] 22)) 35 (.int .u32 0)).alloc (.cells #[.func (.func 68) #[] #[.pointer (some ⟨w1.heap.size + 1, 0, none⟩)]] 65)).alloc (.cells #[.slice A xs.length c] 22)).alloc (.cells #[.slice A2 ys.length c2] 22))
    simpa using this
  have b2 : Boxed W0 (B + 2) 65 (.func (.func 68) #[] #[.pointer (some ⟨B + 1, 0, none⟩)]) := by
    rw [← hW0, ← hB]
    have := (((Boxed.new ((w1.alloc (.cells #[.slice (some ⟨wc.heap.size, 0, none⟩) 0 xs.length] 22)).alloc (.cells #[.int .u32 0] 35)) 65 (.func (.func 68) #[] #[.pointer (some ⟨w1.heap.size + 1, 0, none⟩)])).alloc (.cells #[.slice A xs.length c] 22)).alloc (.cells #[.slice A2 ys.length c2] 22))
    simpa using this
  have b3 : Boxed W0 (B + 3) 22 (.slice A xs.length c) := by
    rw [← hW0, ← hB]
    have := ((Boxed.new (((w1.alloc (.cells #[.slice (some ⟨wc.heap.size, 0, none⟩) 0 xs.length] 22)).alloc (.cells #[.int .u32 0] 35)).alloc (.cells #[.func (.func 68) #[] #[.pointer (some ⟨w1.heap.size + 1, 0, none⟩)]] 65)) 22 (.slice A xs.length c)).alloc (.cells #[.slice A2 ys.length c2] 22))
    simpa using this
  have b4 : Boxed W0 (B + 4) 22 (.slice A2 ys.length c2) := by
    rw [← hW0, ← hB]
    have := (Boxed.new ((((w1.alloc (.cells #[.slice (some ⟨wc.heap.size, 0, none⟩) 0 xs.length] 22)).alloc (.cells #[.int .u32 0] 35)).alloc (.cells #[.func (.func 68) #[] #[.pointer (some ⟨w1.heap.size + 1, 0, none⟩)]] 65)).alloc (.cells #[.slice A xs.length c] 22)) 22 (.slice A2 ys.length c2))
    simpa using this
  have hown0 : Own W0 wc.heap.size (.slice (some ⟨wc.heap.size, 0, none⟩) ([] : List Nat).length xs.length) [] := by
    rw [← hW0]; exact ((((World.ownsRow.alloc hown _).alloc _).alloc _).alloc _).alloc _
  have hS0 : SumAt wc B wc.heap.size xs.length 68 [] 0 W0 := ⟨b0, hown0, b1, b2, hB0, by omega⟩
  have hBw : wc.heap.size < B := by have := (World.ownsRow.lt hown wc.heap.size rfl).2; omega
  have hWr : Boxed W0 B 22 (.slice (some ⟨wc.heap.size, 0, none⟩) 0 xs.length) := b0
  rw [hW0]
  rw [hB]
  clear hW0 b0 b1 b2 hown0 hown hgrow hB1 hB1s hWr hB
  refine wpIn_rangeFunc_ownG rfl (by omega) (gf := 64) (lb := #[.pointer (some ⟨B + 4, 0, none⟩), .pointer (some ⟨B + 3, 0, none⟩)]) rfl trivial (enters_of Tryd.func64 (by kernel_rfl) rfl)
    (pairs_stops (B + 3) (B + 4) _ _ xs ys wc W0 hB0 HL.out (by omega) (by omega) b3 b4 h' g') KpP.trans (kpP_b (by omega) (by omega) (by omega)) (Below.refl _ _) (fun _ => rfl)
    (fun pre W => ∃ o cy, Hid (SubInv pre o cy) ∧ SumAt wc B wc.heap.size xs.length 68 o cy W)
    (fun c pre W => False)
    (fun s X Y row hs hg hr => by obtain ⟨o, cy, ha, hs⟩ := hs; exact ⟨o, cy, ha, hs.grown hg (by omega) hr⟩)
    (fun c s X Y row hs hg hr => hs)
    ⟨[], 0, SubInv.start, hS0⟩
    (fun x => { tmps := #[.slice A xs.length c, .slice A2 ys.length c2, undef, undef, .slice none 0 0, .bool false, .pointer (some ⟨B, 0, none⟩), .pointer (some ⟨B + 1 + 1, 0, none⟩), .int .u32 (x.1.1 : Int), .int .u32 (x.1.2 : Int), .slice A xs.length c, .slice A2 ys.length c2, .int .i64 (cmpI n m), .bool false, .slice A xs.length c, .int .i64 (xs.length : Int), .slice (some ⟨wc.heap.size, 0, none⟩) 0 xs.length, .func (.func 68) #[] #[.pointer (some ⟨B + 1, 0, none⟩)], .slice A xs.length c, .slice A2 ys.length c2, .func (.func 64) #[] #[.pointer (some ⟨B + 1 + 1 + 1 + 1, 0, none⟩), .pointer (some ⟨B + 1 + 1 + 1, 0, none⟩)], .int .u32 (x.1.1 : Int), .int .u32 (x.1.2 : Int), undef, undef, undef, undef, undef, undef, undef, undef, undef], defers := [] }) ?assign ?body ?done ?stop
  case assign =>
    intro l x W K hK
    gi_wp2
    exact hK
  case body =>
    rintro l pre x W ⟨o, cy, HA, hS⟩ hpl
    have hb0 := hS.box.cell
    have hf0 := hS.box.frozen
    have hb1 := hS.car.cell
    have hf1 := hS.car.frozen
    have hb2 := hS.fnc.cell
    have hmx : Tryd.prog.follows .mixedOrders = true := by kernel_rfl
    have hcy := HA.out.carry
    have hlen := HA.out.len
    have hol : o.length + 1 ≤ xs.length := by omega
    have HA2 := Lib.hid (HA.out.step x)
    have hdlt := subD_lt x.1.1 x.1.2 cy
    obtain ⟨d, hd⟩ : ∃ d, subD x.1.1 x.1.2 cy = d := ⟨_, rfl⟩
    obtain ⟨cz, hcz⟩ : ∃ d, subC x.1.1 x.1.2 cy = d := ⟨_, rfl⟩
    have hcall := taker1_calls W.drew x.1.1 x.1.2 cy (B + 1) x.2.1 x.2.2 hcy hb1 hf1
    rw [hd, hcz] at hcall HA2
    obtain ⟨W1, hW1⟩ : ∃ W1, W.drew.setCell ⟨B + 1, 0, none⟩ (.int .u32 (cz : Nat)) = W1 := ⟨_, rfl⟩
    rw [hW1] at hcall
    have hsz1 : W1.heap.size = W.heap.size := by rw [← hW1]; simp [World.setCell]
    have hg1 : W.grownBy W1 (some (B + 1)) := by rw [← hW1]; have hq := grownBy_setCell' W.drew (B + 1) (.int .u32 (cz : Nat)); exact ⟨hq.os, hq.tape, hq.output, hq.size, hq.block⟩
    have hown1 : (W1.alloc (.cells #[.int .u32 (d : Nat)] 35)).ownsRow wc.heap.size 35 1 (.slice (some ⟨wc.heap.size, 0, none⟩) o.length xs.length) o.length (L32 o) :=
      World.ownsRow.alloc (World.ownsRow.kept hS.own hg1 (.inr (by simp [Value.ownBlock]; omega))) _
    have hx0 := hS.box.kept hg1 (by intro e; injection e with e; omega)
    have hx2 := hS.fnc.kept hg1 (by intro e; injection e with e; omega)
    have hx1 : Boxed W1 (B + 1) 35 (.int .u32 (cz : Nat)) := by rw [← hW1]; exact Boxed.set (W := W.drew) _ hS.car
    have hxb : Below wc.heap.size wc W1 := hS.bel.grown hg1 hS.bel.size (fun k e => by injection e with e; omega)
    have hxW : Below wc.heap.size W W1 := (Below.refl _ W).grown hg1 hS.bel.size (fun k e => by injection e with e; omega)
    have hko : KeepsOthers W W1 := by rw [← hW1]; exact (KeepsOthers.drew W).trans (KeepsOthers.setCell _ _ _)
    obtain ⟨W2, hrun, hown2, hgrow2⟩ := run_append_fits (P := Tryd.prog) (W1.alloc (.cells #[.int .u32 (d : Nat)] 35)) wc.heap.size 22 22 35 i0 1 Tryd.underlying22 hi hz1 wc.heap.size o.length xs.length (L32 o) hown1
      ⟨W1.heap.size, 0, none⟩ 1 1 [.int .u32 (d : Nat)] rfl (by intro j u hj; cases j with | zero => simp at hj; subst hj; simp [Addr.add] | succ j => simp at hj) (by simp [Value.oneCell']) hol
    have hy0 := (hx0.alloc (.cells #[.int .u32 (d : Nat)] 35)).kept hgrow2 (by intro e; injection e with e; omega)
    have hy1 := (hx1.alloc (.cells #[.int .u32 (d : Nat)] 35)).kept hgrow2 (by intro e; injection e with e; omega)
    have hy2 := (hx2.alloc (.cells #[.int .u32 (d : Nat)] 35)).kept hgrow2 (by intro e; injection e with e; omega)
    have hyb : Below wc.heap.size wc W2 := (hxb.alloc hxb.size _).grown hgrow2 (by have := hxb.size; rw [World.size_alloc]; omega) (fun k e => by injection e with e; omega)
    have hyW : Below wc.heap.size W W2 := (hxW.alloc hxb.size _).grown hgrow2 (by have := hxb.size; rw [World.size_alloc]; omega) (fun k e => by injection e with e; omega)
    have hkeep : ∀ k, k < W.heap.size → k ≠ B + 1 → k ≠ wc.heap.size → W2.heap[k]? = W.heap[k]? := fun k h1 h2 h3 =>
      ((hgrow2.block k (by rw [World.size_alloc]; omega) (fun e => h3 (by injection e))).trans (Below.heap_alloc _ _ k (by omega))).trans (hg1.block k h1 (fun e => h2 (by injection e)))
    have hko2 : KeepsOthers W W2 := (hko.trans (KeepsOthers.alloc _ _)).trans (KeepsOthers.of_grownBy hgrow2 fun j ob ej hj => by
      cases ej
      rcases hown1.2 with ⟨h', _⟩ | ⟨g', cap', cur, h', _, hg, _⟩
      · cases h'
      · cases h'; rw [hg] at hj; cases hj; rfl)
    have hyc0 := hy0.cell
    have hxc0 := hx0.cell
    have hxc1 := (hx0.alloc (.cells #[.int .u32 (d : Nat)] 35)).cell
    have hyf0 := hy0.frozen
    have HW1 := Lib.hid hsz1
    obtain ⟨ht1, ht2, ht3⟩ := app_tok hrun
    clear hrun hW1 hsz1 hd hcz hg1 hlen hdlt
    gi_wp2
    gi_region_with_o ((refine ⟨trivial, ?_⟩; gi_at_call 68; refine (CallsIn.inRound l (callsIn_wide.2 hcall)).mono ?_; rintro e w' ⟨rfl, rfl⟩))
    all_goals gi_wp2
    all_goals
      have hsiz := hS.siz
      have hW2s := hko2.size
      have hset := grownBy_setCell' W2 B (.slice (some ⟨wc.heap.size, 0, none⟩) (o.length + 1) xs.length)
      have hrow : (W2.setCell ⟨B, 0, none⟩ (.slice (some ⟨wc.heap.size, 0, none⟩) (o.length + 1) xs.length)).ownsRow wc.heap.size 35 1 (.slice (some ⟨wc.heap.size, 0, none⟩) (o.length + 1) xs.length) (o.length + 1) (L32 o ++ [.int .u32 (d : Nat)]) :=
        World.ownsRow.kept hown2 hset (.inr (by simp only [Value.ownBlock]; intro e; injection e with e; omega))
      refine ⟨(hko2.trans (KeepsOthers.setCell _ _ _)).from _, ⟨hyW.setCell (p := ⟨B, 0, none⟩) (Nat.le_of_lt hBw) _, ?_, ?_⟩, o ++ [d], cz, HA2.out, ?_, ?_, hy1.other (by omega) _, hy2.other (by omega) _, hyb.setCell (p := ⟨B, 0, none⟩) (Nat.le_of_lt hBw) _, ?_⟩
      · exact (hset.block (B + 3) (by omega) (fun e => by injection e with e; omega)).trans (hkeep (B + 3) (by omega) (by omega) (by omega))
      · exact (hset.block (B + 4) (by omega) (fun e => by injection e with e; omega)).trans (hkeep (B + 4) (by omega) (by omega) (by omega))
      · rw [List.length_append]; exact hy0.set _
      · unfold Own; rw [L32_append, List.length_append]; exact hrow
      · have := hset.size; omega
  case done =>
    rintro D l W hD hl ⟨o, cy, HA, hS⟩ hK
    have hb0 := hS.box.cell
    have hdone := HA.out.done hl HL.out (by rw [HXS.out, HYS.out]; exact HLE.out)
    rw [HXS.out, HYS.out] at hdone
    have hlen := HA.out.len
    have hol : o.length = xs.length := by rw [hlen]; have := congrArg List.length hl; simpa [pairsL] using this
    have hu : U W (.slice (some ⟨wc.heap.size, 0, none⟩) o.length xs.length) o := Own.toU hS.own HA.out.lt (by omega)
    have HD := Lib.hid hdone
    have HB := Lib.hid (hBc.trans (hS.bel.mono hBc.size))
    clear hdone hol hl hlen
    gi_wp2_with (refine ⟨trivial, ?_⟩; gi_at_call 32; refine (callsIn_wide.2 (make_calls _ _ _ hu)).mono ?_; rintro e w' ⟨⟨z, rfl, hz⟩, rfl⟩)
    rw [HD.out] at hz
    refine ⟨by simp, .inl ⟨_, _, rfl, run_takeDeferred hK, ?_⟩⟩
    refine ⟨.tuple #[z, .bool true], by simp [results, Tryd.f34, go_sem], ⟨_, rfl, hz.put hK rfl _⟩, HB.out.trans (belowK_b (w := w) (Nat.le_refl _) _ D _ _ (by have := hBc.size; omega) hK rfl rfl)⟩
  case stop =>
    rintro D cc pre W hD _ h _
    exact h.elim

theorem nsub_calls (w : World) (v u : Value) (n m : Nat) (h : Un w v n) (g : Un w u m) (hm : (limbs n).length ≤ 1000000000) :
    Calls Tryd.prog 34 #[v, u] w fun e w' => (∃ z, e = .returned (.tuple #[z, .bool (decide (m ≤ n))]) ∧ Un w' z (n - m)) ∧ Below w.heap.size w w' := by
  by_cases hle : m ≤ n
  · rw [decide_eq_true hle]
    exact callsIn_wide.1 (sub_ge w v u n m _ _ rfl rfl h g (len_mono hle) hle hm)
  · rw [decide_eq_false hle]
    have hcm : decide (cmpI n m < 0) = true := by rw [cmpI_lt (by omega)]; rfl
    have hz : Hid (n - m = 0) := by rw [Hid]; omega
    have hcall0 := cmp_calls w _ _ n m h g
    clear hle
    go_enter Tryd.func34, Tryd.ntmps34
    go_wp2_with (go_at_call 33; refine hcall0.mono ?_; rintro e wc ⟨rfl, hBc⟩)
    go_ret2
    exact ⟨⟨_, rfl, by rw [hz.out, Un, limbs_zero]; exact U.nil_ _ _ _⟩, by assumption⟩
end Go.Proofs.YtkmejhkdmnjbeaaDoor
/- The document's own Make and Made. -/
namespace Go.Proofs.YtkmejhkdmnjbeaaDoor
open Go.RowKit
set_option linter.unusedVariables false
set_option maxHeartbeats 400000
attribute [local go_sem ↓] app_shut
attribute [local go_sem] run_append_tok

theorem rmake_calls (w : World) (v : Value) (xs : List Nat) (h : U w v xs) (hlen : xs.length ≤ 1000000000) :
    Calls Tryd.prog 36 #[v] w fun e w' => (∃ u, e = .returned u ∧ U w' u (limbs (val xs))) ∧ Below w.heap.size w w' := by
  have h' := h
  obtain ⟨A, c, rfl, ⟨hc, hm⟩, hx, hr⟩ := h
  go_enter Tryd.func36, Tryd.ntmps36
  go_wp2
  go_loop [3] (fun n => ∃ k : Nat, k ≤ xs.length ∧ n = .int .i64 k ∧ Hid (∀ j, k ≤ j → j < xs.length → lb xs j = 0)) (fun n => (intOf n).toNat)
  case atStart => exact ⟨xs.length, Nat.le_refl _, rfl, fun j h1 h2 => by omega⟩
  case round =>
    obtain ⟨k, hk, rfl, hz⟩ := hrel
    have hfin : (0 < k → lb xs (k - 1) ≠ 0) → ∃ v' w', (Builtin.append_ #[22, 22] 22 #[.slice (some ⟨w.heap.size, 0, none⟩) 0 0, .slice A k c]).run Tryd.prog (w.alloc (.cells #[] 35)) = .ok v' w' ∧ U w' v' (limbs (val xs)) ∧ Below w.heap.size w w' := fun h2 => by
      have hB : Below w.heap.size w (w.alloc (.cells #[] 35)) := (Below.refl _ _).alloc (Nat.le_refl _) _
      have hown : Own (w.alloc (.cells #[] 35)) w.heap.size (.slice (some ⟨w.heap.size, 0, none⟩) 0 0) [] := World.ownsRow_lit w #[] 0 (Nat.le_refl _) (Nat.zero_le _) rfl
      have hu : U w (.slice A k c) (xs.take k) := h'.take hk (by omega)
      have htl : (xs.take k).length = k := by simp; omega
      obtain ⟨v', w', hrun, ho, hg⟩ := run_append_U _ w.heap.size _ [] hown _ _ (hu.below hB) (by rw [htl]; simp; omega) hB.size
      refine ⟨v', w', hrun, ?_, hB.grown hg hB.size (fun j e => by cases e; exact Nat.le_refl _)⟩
      rw [strip_eq xs k hx hk hz.out h2]
      rw [List.nil_append] at ho
      exact ho.toU (fun x hx' => hx x (List.mem_of_mem_take hx')) (by rw [htl]; omega)
    rcases Nat.eq_zero_or_pos k with rfl | h0
    · obtain ⟨v', w', hrun, HU, HB⟩ := hfin (fun h => absurd h (by omega))
      obtain ⟨t1, t2, t3⟩ := app_tok hrun
      clear hfin hrun
      go_wp2
      go_ret
      exact ⟨⟨_, rfl, HU⟩, HB⟩
    · obtain ⟨ad, rfl, hb, hcell⟩ := hr (by omega)
      have hc1 := hcell (k - 1) (by omega)
      by_cases hx0 : lb xs (k - 1) = 0
      · have ht : ((((lb xs (k - 1) : Nat)) : Int) == 0) = true := by rw [hx0]; rfl
        have HX := Lib.hid hx0
        clear hx0 hfin
        go_wp2
        go_round
        case rel => exact ⟨k - 1, by omega, by go_num, fun j h1 h2 => by
          rcases Nat.lt_or_ge j k with h3 | h3
          · have : j = k - 1 := by omega
            subst this; exact HX.out
          · exact hz.out j h3 h2⟩
        case measure => simp [intOf]; omega
      · have ht : ((((lb xs (k - 1) : Nat)) : Int) == 0) = false := by rw [beq_eq_false_iff_ne]; omega
        obtain ⟨v', w', hrun, HU, HB⟩ := hfin (fun _ => hx0)
        obtain ⟨t1, t2, t3⟩ := app_tok hrun
        clear hfin hrun hx0
        go_wp2
        go_ret
        exact ⟨⟨_, rfl, HU⟩, HB⟩
end Go.Proofs.YtkmejhkdmnjbeaaDoor
/- The document's own Made. -/
namespace Go.Proofs.YtkmejhkdmnjbeaaDoor
open Go.RowKit
set_option linter.unusedVariables false
set_option maxHeartbeats 400000

/-- The number that the first k limbs are. -/
def cutN (xs : List Nat) (k : Nat) : Nat := val (xs.take k)
theorem cutN_len (xs : List Nat) (k : Nat) (hx : ∀ x ∈ xs, x < 4294967296) : (limbs (cutN xs k)).length ≤ k := by
  apply len_le_of_lt
  have := val_lt (xs.take k) (fun x h => hx x (List.mem_of_mem_take h))
  refine Nat.lt_of_lt_of_le this (Nat.pow_le_pow_right (by decide) ?_)
  rw [List.length_take]; omega

theorem made_calls (w : World) (v : Value) (xs : List Nat) (k : Int) (hk0 : 0 ≤ k) (hk1 : k ≤ 1000000000) (h : U w v xs) :
    Calls Tryd.prog 21 #[v, .int .i64 k] w fun e w' => (∃ u, e = .returned u ∧ Un w' u (cutN xs k.toNat)) ∧ Below w.heap.size w w' := by
  have h' := h
  obtain ⟨A, c, rfl, ⟨hc, hm⟩, hx, hr⟩ := h
  clear hr
  by_cases hl : (xs.length : Int) ≤ k
  · have hu := rmake_calls w _ xs h' (by omega)
    have HT : Hid (xs.take k.toNat = xs) := List.take_of_length_le (by omega)
    have hmin : min (xs.length : Int) k = xs.length := by omega
    go_enter Tryd.func21, Tryd.ntmps21
    go_wp2_with (go_at_call 36; refine hu.mono ?_; rintro e w' ⟨⟨z, rfl, hz⟩, hB⟩)
    go_ret
    exact ⟨⟨_, rfl, by rw [Un, cutN, HT.out]; exact hz⟩, hB⟩
  · obtain ⟨k, rfl⟩ := Int.eq_ofNat_of_zero_le hk0
    have hu := rmake_calls w _ _ (h'.take (k := k) (c' := c) (by omega) (by omega)) (by rw [List.length_take]; omega)
    have hmin : min (xs.length : Int) (k : Int) = k := by omega
    go_enter Tryd.func21, Tryd.ntmps21
    go_wp2_with (go_at_call 36; refine hu.mono ?_; rintro e w' ⟨⟨z, rfl, hz⟩, hB⟩)
    go_ret
    exact ⟨⟨_, rfl, by rw [Un, cutN, Int.toNat_natCast]; exact hz⟩, hB⟩
end Go.Proofs.YtkmejhkdmnjbeaaDoor
/- The contracts in one form: whatever lay lies as it lay; the results as the callers ask for them. -/
namespace Go.Proofs.YtkmejhkdmnjbeaaDoor
open Go.RowKit
set_option linter.unusedVariables false

theorem Un.alloc {w : World} {v : Value} {n : Nat} (h : Un w v n) (o : Obj) : Un (w.alloc o) v n := U.alloc h o
theorem U.un {w : World} {v : Value} {xs : List Nat} {n : Nat} (h : U w v xs) (e : limbs n = xs) : Un w v n := by rw [Un, e]; exact h
theorem lim {n : Nat} (xs : List Nat) (hv : val xs = n) (hx : ∀ x ∈ xs, x < 4294967296) (hl : xs ≠ [] → xs[xs.length - 1]?.getD 0 ≠ 0) : limbs n = xs := by rw [← hv]; exact limbs_val xs hx hl
theorem Un_nil (w : World) : Un w (.slice none 0 0) 0 := by rw [Un, limbs_zero]; exact U.nil_ _ _ _

theorem same_B (w : World) (v u : Value) (xs ys : List Nat) (h : U w v xs) (g : U w u ys) (b : Bool) (hb : decide (xs = ys) = b) :
    Calls Tryd.prog 15 #[v, u] w fun e w' => e = .returned (.bool b) ∧ Ext w w' :=
  (same_calls w v u xs ys h g).mono fun e w' ⟨he, n, hw⟩ => ⟨by rw [he, hb], by rw [hw]; exact ext_drewN w n⟩
theorem right_B (w : World) (v : Value) (xs : List Nat) (h : U w v xs) (b : Bool) (hb : rightB xs = b) :
    Calls Tryd.prog 29 #[v] w fun e w' => e = .returned (.bool b) ∧ Ext w w' :=
  (right_calls w v xs h).mono fun e w' ⟨he, hw⟩ => ⟨by rw [he, hb], by rw [← hw]; exact Ext.refl w⟩
theorem make_B (w : World) (v : Value) (xs : List Nat) (h : U w v xs) (n : Nat) (hn : val xs = n) :
    Calls Tryd.prog 32 #[v] w fun e w' => ∃ u, e = .returned u ∧ Un w' u n ∧ Ext w w' :=
  (make_calls w v xs h).mono fun e w' ⟨⟨u, he, hu⟩, hw⟩ => ⟨u, he, by rw [← hw, Un, ← hn]; exact hu, by rw [← hw]; exact Ext.refl w⟩
theorem bits_B (w : World) (v : Value) (n : Nat) (h : Un w v n) (hl : (limbs n).length ≤ 1000000000) (k : Int) (hk : ((blen n : Nat) : Int) = k) :
    Calls Tryd.prog 30 #[v] w fun e w' => e = .returned (.int .i64 k) ∧ Ext w w' :=
  (bits_calls w v n h hl).mono fun e w' ⟨he, hw⟩ => ⟨by rw [he, hk], by rw [← hw]; exact Ext.refl w⟩
theorem cmp_B (w : World) (v u : Value) (n m : Nat) (h : Un w v n) (g : Un w u m) (k : Int) (hk : cmpI n m = k) :
    Calls Tryd.prog 33 #[v, u] w fun e w' => e = .returned (.int .i64 k) ∧ Ext w w' :=
  (cmp_calls w v u n m h g).mono fun e w' ⟨he, hw⟩ => ⟨by rw [he, hk], hw⟩
theorem add_B (w : World) (v u : Value) (n m : Nat) (h : Un w v n) (g : Un w u m) (hm : (limbs n).length ≤ 1000000000) (hm2 : (limbs m).length ≤ 1000000000) (s : Nat) (hs : n + m = s) :
    Calls Tryd.prog 27 #[v, u] w fun e w' => ∃ z, e = .returned z ∧ Un w' z s ∧ Ext w w' := by
  subst hs
  have := nadd_calls w v u _ _ h g hm hm2
  rw [val_limbs, val_limbs] at this
  exact this.mono fun e w' ⟨⟨z, he, hz⟩, hb⟩ => ⟨z, he, hz, hb⟩
theorem sub_B (w : World) (v u : Value) (n m : Nat) (h : Un w v n) (g : Un w u m) (hm : (limbs n).length ≤ 1000000000) (b : Bool) (hb : decide (m ≤ n) = b) (d : Nat) (hd : n - m = d) :
    Calls Tryd.prog 34 #[v, u] w fun e w' => ∃ z, e = .returned (.tuple #[z, .bool b]) ∧ Un w' z d ∧ Ext w w' := by
  subst hd hb
  exact (nsub_calls w v u n m h g hm).mono fun e w' ⟨⟨z, he, hz⟩, hb⟩ => ⟨z, he, hz, hb⟩
theorem shl_B (w : World) (v : Value) (n : Nat) (k : Int) (h : Un w v n) (hk0 : 0 ≤ k) (hk1 : k ≤ 1000000000) (hl : (limbs n).length ≤ 1000000000) (s : Nat) (hs : n * 2 ^ k.toNat = s) :
    Calls Tryd.prog 31 #[v, .int .i64 k] w fun e w' => ∃ u, e = .returned u ∧ Un w' u s ∧ Ext w w' := by
  subst hs
  exact (shl_calls w v n k hk0 hk1 h hl).mono fun e w' ⟨⟨u, he, hu⟩, hb⟩ => ⟨u, he, hu, hb⟩
theorem made_B (w : World) (v : Value) (xs : List Nat) (k : Int) (h : U w v xs) (hk0 : 0 ≤ k) (hk1 : k ≤ 1000000000) (n : Nat) (hn : cutN xs k.toNat = n) :
    Calls Tryd.prog 21 #[v, .int .i64 k] w fun e w' => ∃ u, e = .returned u ∧ Un w' u n ∧ Ext w w' := by
  subst hn
  exact (made_calls w v xs k hk0 hk1 h).mono fun e w' ⟨⟨u, he, hu⟩, hb⟩ => ⟨u, he, hu, hb⟩
end Go.Proofs.YtkmejhkdmnjbeaaDoor
/- Slices of 64-bit words: read, and made by the call itself. -/
namespace Go.Proofs.YtkmejhkdmnjbeaaDoor
open Go.RowKit
set_option linter.unusedVariables false
set_option maxHeartbeats 400000

theorem info64 : (Tryd.prog.info? 36).map (fun i => (i.zero, i.size, i.bytes)) = some (some (.int .u64 0), 1, 8) := by kernel_rfl

/-- v is a slice of words whose first cells are xs, none of them in block g. -/
def V (g : Nat) (w : World) (v : Value) (xs : List Nat) : Prop :=
  ∃ (A : Option Addr) (c : Nat), v = .slice A xs.length c ∧ (xs.length ≤ c ∧ xs.length ≤ 9223372036854775807) ∧ (∀ x ∈ xs, x < 18446744073709551616) ∧
    (0 < xs.length → ∃ ad, A = some ad ∧ ad.block < w.heap.size ∧ ad.block ≠ g ∧ ∀ j, j < xs.length → w.cell? (ad.add j) = some (.int .u64 (lb xs j : Nat)))
theorem V.lim {g : Nat} {w : World} {v : Value} {xs : List Nat} (h : V g w v xs) : ∀ x ∈ xs, x < 18446744073709551616 := by
  obtain ⟨A, c, rfl, hc, hx, hr⟩ := h; exact hx
theorem V.keep {g : Nat} {w w' : World} {v : Value} {xs : List Nat} (h : V g w v xs) (hs : w.heap.size ≤ w'.heap.size) (hk : ∀ p : Addr, p.block < w.heap.size → p.block ≠ g → w'.cell? p = w.cell? p) : V g w' v xs := by
  obtain ⟨A, c, rfl, hc, hx, hr⟩ := h
  refine ⟨A, c, rfl, hc, hx, fun h0 => ?_⟩
  obtain ⟨ad, hA, hb, hne, hcell⟩ := hr h0
  exact ⟨ad, hA, by omega, hne, fun j hj => (hk _ (by rw [addr_add_block]; exact hb) (by rw [addr_add_block]; exact hne)).trans (hcell j hj)⟩
theorem V.below {g : Nat} {w w' : World} {v : Value} {xs : List Nat} (h : V g w v xs) (hb : Ext w w') : V g w' v xs := h.keep hb.size fun _ hp _ => hb.cell hp
theorem V.but {g : Nat} {w w' : World} {v : Value} {xs : List Nat} (h : V g w v xs) (hb : But g w w') : V g w' v xs := h.keep hb.size fun _ hp hn => hb.cell hp hn
theorem V.new {g g' : Nat} {w : World} {v : Value} {xs : List Nat} (h : V g' w v xs) (hg : w.heap.size ≤ g) : V g w v xs := by
  obtain ⟨A, c, rfl, hc, hx, hr⟩ := h
  refine ⟨A, c, rfl, hc, hx, fun h0 => ?_⟩
  obtain ⟨ad, hA, hb, hne, hcell⟩ := hr h0
  exact ⟨ad, hA, hb, by omega, hcell⟩
theorem V.nil_ (g : Nat) (w : World) (A : Option Addr) (c : Nat) : V g w (.slice A 0 c) [] := ⟨A, c, rfl, ⟨Nat.zero_le _, Nat.zero_le _⟩, by simp, fun h => absurd h (by simp)⟩
/-- A slice of it. -/
theorem V.take {g : Nat} {w : World} {A : Option Addr} {n c : Nat} {xs : List Nat} (h : V g w (.slice A n c) xs) {k c' : Nat} (hk : k ≤ n) (hc' : k ≤ c') : V g w (.slice A k c') (xs.take k) := by
  obtain ⟨A, c, hv, hc, hx, hr⟩ := h
  injection hv with h1 h2 h3
  subst h1 h2 h3
  have hlen : (xs.take k).length = k := by simp; omega
  refine ⟨_, c', by rw [hlen], by omega, fun x hx' => hx x (List.mem_of_mem_take hx'), fun h0 => ?_⟩
  obtain ⟨ad, hA, hb, hne, hcell⟩ := hr (by omega)
  refine ⟨ad, hA, hb, hne, fun j hj => ?_⟩
  rw [hcell j (by omega), lb_take (by omega)]
theorem V.drop {g : Nat} {w : World} {ad : Addr} {n c : Nat} {xs : List Nat} (h : V g w (.slice (some ad) n c) xs) {k m c' : Nat} (hk : k ≤ n) (hm : n - k = m) (hc' : m ≤ c') : V g w (.slice (some (ad.add k)) m c') (xs.drop k) := by
  obtain ⟨A, c, hv, hc, hx, hr⟩ := h
  injection hv with h1 h2 h3
  subst h1 h2 h3
  have hlen : (xs.drop k).length = m := by simp; omega
  refine ⟨_, c', by rw [hlen], by omega, fun x hx' => hx x (List.mem_of_mem_drop hx'), fun h0 => ?_⟩
  obtain ⟨ad', hA, hb, hne, hcell⟩ := hr (by omega)
  injection hA with hA
  subst hA
  refine ⟨_, rfl, by rw [addr_add_block]; exact hb, by rw [addr_add_block]; exact hne, fun j hj => ?_⟩
  rw [addr_add_add, hcell (k + j) (by omega), lb_drop]
theorem V.opened {g : Nat} {w : World} {v : Value} {xs : List Nat} (h : V g w v xs) {n : Nat} (hn : xs.length = n) (h0 : 0 < n) : ∃ ad c, v = .slice (some ad) n c ∧ n ≤ c ∧ ad.block < w.heap.size ∧ ad.block ≠ g ∧ ∀ j, j < n → w.cell? (ad.add j) = some (.int .u64 (lb xs j : Nat)) := by
  subst hn
  obtain ⟨A, c, rfl, hc, hx, hr⟩ := h
  obtain ⟨ad, rfl, hb, hne, hcell⟩ := hr h0
  exact ⟨ad, c, rfl, hc.1, hb, hne, hcell⟩
theorem V.shape {g : Nat} {w : World} {v : Value} {xs : List Nat} (h : V g w v xs) : ∃ A c, v = .slice A xs.length c ∧ xs.length ≤ c := by
  obtain ⟨A, c, rfl, hc, _⟩ := h; exact ⟨A, c, rfl, hc.1⟩

def L64 (o : List Nat) : List Value := o.map fun x => Value.int .u64 (x : Nat)
theorem L64_length (o : List Nat) : (L64 o).length = o.length := by simp [L64]
theorem L64_get (o : List Nat) {j : Nat} (h : j < o.length) : (L64 o)[j]? = some (.int .u64 (lb o j : Nat)) := by
  unfold L64 lb; simp [h]
theorem L64_append (a b : List Nat) : L64 (a ++ b) = L64 a ++ L64 b := by simp [L64]
theorem L64_set (a : List Nat) (i x : Nat) : L64 (a.set i x) = (L64 a).set i (.int .u64 (x : Nat)) := by simp [L64, List.map_set]
theorem L64_zeros (k : Nat) : L64 (List.replicate k 0) = List.replicate k (.int .u64 0) := by simp [L64]

/-- v is a row of the call's own, from block base on: the words o. -/
def Ow (w : World) (base : Nat) (v : Value) (o : List Nat) : Prop := w.ownsRow base 36 1 v o.length (L64 o)
theorem Ow.caps {w : World} {base g n c : Nat} {o : List Nat} (h : Ow w base (.slice (some ⟨g, 0, none⟩) n c) o) : n = o.length ∧ n ≤ c ∧ c ≤ maxLen := by
  rcases h.2 with ⟨h1, _⟩ | ⟨g', cap, cur, h1, hg, hh, h2, h3, h4, h5⟩
  · cases h1
  · injection h1 with e1 e2 e3
    subst e2 e3
    exact ⟨rfl, h2, h3⟩
theorem Ow.block {w : World} {base g n c : Nat} {o : List Nat} (h : Ow w base (.slice (some ⟨g, 0, none⟩) n c) o) : base ≤ g ∧ g < w.heap.size := by
  have h0 : w.ownsRow base 36 1 (.slice (some ⟨g, 0, none⟩) n c) o.length (L64 o) := h
  exact h0.lt g rfl
theorem Ow.cell {w : World} {base g n c : Nat} {o : List Nat} (h : Ow w base (.slice (some ⟨g, 0, none⟩) n c) o) {j : Nat} (hj : j < n) : w.cell? ⟨g, j, none⟩ = some (.int .u64 (lb o j : Nat)) := by
  obtain ⟨e, _, _⟩ := h.caps
  subst e
  have h0 : w.ownsRow base 36 1 (.slice (some ⟨g, 0, none⟩) o.length c) o.length (L64 o) := h
  rw [World.ownsRow.cellAt h0 j (by omega)]; exact L64_get o hj
theorem Ow.frozen {w : World} {base g n c : Nat} {o : List Nat} (h : Ow w base (.slice (some ⟨g, 0, none⟩) n c) o) (j : Nat) : w.frozen? ⟨g, j, none⟩ = false := by
  obtain ⟨e, _, _⟩ := h.caps
  subst e
  have h0 : w.ownsRow base 36 1 (.slice (some ⟨g, 0, none⟩) o.length c) o.length (L64 o) := h
  exact World.ownsRow.frozenAt h0 j
theorem Ow.set_ {w : World} {base g n c : Nat} {o : List Nat} (h : Ow w base (.slice (some ⟨g, 0, none⟩) n c) o) (j x : Nat) : Ow (w.setCell ⟨g, j, none⟩ (.int .u64 (x : Nat))) base (.slice (some ⟨g, 0, none⟩) n c) (o.set j x) := by
  obtain ⟨e, _, _⟩ := h.caps
  subst e
  have h0 : w.ownsRow base 36 1 (.slice (some ⟨g, 0, none⟩) o.length c) o.length (L64 o) := h
  have := (World.ownsRow.stored h0 j (.int .u64 (x : Nat))).1
  unfold Ow
  rw [L64_set, List.length_set]
  exact this
theorem Ow.drew {w : World} {base : Nat} {v : Value} {o : List Nat} (h : Ow w base v o) : Ow w.drew base v o := h
theorem Ow.alloc {w : World} {base : Nat} {v : Value} {o : List Nat} (h : Ow w base v o) (x : Obj) : Ow (w.alloc x) base v o := World.ownsRow.alloc h x
theorem Ow.below {w w' : World} {base B : Nat} {v : Value} {o : List Nat} (h : Ow w base v o) (hB : Below B w w') (hv : ∀ g, v.ownBlock = some g → g < B) : Ow w' base v o := by
  refine ⟨h.1, ?_⟩
  rcases h.2 with hn | ⟨g, cap, cur, rfl, hb, hgg, rest⟩
  · exact .inl hn
  · refine .inr ⟨g, cap, cur, rfl, hb, ?_, rest⟩
    rw [hB.block g (hv g rfl)]
    exact hgg
theorem Ow.ext {w w' : World} {base g n c : Nat} {o : List Nat} (h : Ow w base (.slice (some ⟨g, 0, none⟩) n c) o) (hB : Ext w w') : Ow w' base (.slice (some ⟨g, 0, none⟩) n c) o :=
  h.below hB fun g' e => by have h2 := h.block.2; have e' : g = g' := Option.some.inj e; omega
theorem Ow.but {w w' : World} {base g q n c : Nat} {o : List Nat} (h : Ow w base (.slice (some ⟨g, 0, none⟩) n c) o) (hb : But q w w') (hne : g ≠ q) : Ow w' base (.slice (some ⟨g, 0, none⟩) n c) o := by
  have hlt := h.block.2
  refine ⟨h.1, ?_⟩
  rcases h.2 with hn | ⟨q', cap, cur, e, hbq, hgg, rest⟩
  · exact .inl hn
  · injection e with e1 e2 e3
    injection e1 with e1
    injection e1 with e1
    subst e1
    refine .inr ⟨g, cap, cur, by rw [e2, e3], hbq, ?_, rest⟩
    rw [hb.block g hlt (fun e => hne (by injection e))]
    exact hgg
theorem Ow.base_mono {w : World} {base base' : Nat} {v : Value} {o : List Nat} (h : Ow w base v o) (hb : base' ≤ base) : Ow w base' v o := by
  refine ⟨h.1, ?_⟩
  rcases h.2 with hn | ⟨g, cap, cur, rfl, hg, rest⟩
  · exact .inl hn
  · exact .inr ⟨g, cap, cur, rfl, by omega, rest⟩
theorem Ow.zeros {w : World} {base g : Nat} {n : Nat} (h : w.ownsRow base 36 1 (.slice (some ⟨g, 0, none⟩) n n) n (madeCells (Value.int .u64 0).cells (n * 1)).toList) :
    Ow w base (.slice (some ⟨g, 0, none⟩) n n) (List.replicate n 0) := by
  have e : (madeCells (Value.int .u64 0).cells (n * 1)).toList = L64 (List.replicate n 0) := by
    rw [L64_zeros, Nat.mul_one]; exact toList_madeCells_one _ _
  rw [e] at h
  unfold Ow
  rw [List.length_replicate]
  exact h
/-- A row is read by whoever does not write into it. -/
theorem Ow.toV {w : World} {base g n c : Nat} {o : List Nat} (h : Ow w base (.slice (some ⟨g, 0, none⟩) n c) o) (hx : ∀ x ∈ o, x < 18446744073709551616) (q : Nat) (hq : g ≠ q) : V q w (.slice (some ⟨g, 0, none⟩) n c) o := by
  obtain ⟨e, h1, h2⟩ := h.caps
  subst e
  refine ⟨_, c, rfl, ⟨h1, by unfold maxLen at h2; omega⟩, hx, fun h0 => ⟨_, rfl, h.block.2, hq, fun j hj => ?_⟩⟩
  rw [addr_zero_add]; exact h.cell hj
theorem But.toExt {g : Nat} {a b : World} (h : But g a b) (hB : a.heap.size ≤ g) : Ext a b := h.below hB (Nat.le_refl _)
theorem Ext.but {g : Nat} {a b c : World} (h : Ext a b) (k : But g b c) (hg : a.heap.size ≤ g) : Ext a c := Below.trans h (k.below hg h.size)
end Go.Proofs.YtkmejhkdmnjbeaaDoor
/- Limbs as words, and back. -/
namespace Go.Proofs.YtkmejhkdmnjbeaaDoor
open Go.RowKit
set_option linter.unusedVariables false
set_option maxHeartbeats 400000

theorem u64_or32 (x y z : Nat) (hx : x < 4294967296) (hy : y < 4294967296) (hz : x + 4294967296 * y = z) : bits .or .u64 (x : Int) ((4294967296 * y : Nat) : Int) = (z : Int) := by
  rw [u64_or_nat _ _ (by omega) (by omega), Nat.or_comm, nat_join 32 _ x (Nat.mul_mod_right _ _) hx]
  omega
structure PkI (xs : List Nat) (m i : Nat) (o : List Nat) : Prop where
  len : o.length = m
  at_ : ∀ j, j < i → lb o j = lb (packL xs) j
theorem PkI.step {xs : List Nat} {m i : Nat} {o : List Nat} (h : PkI xs m i o) (hi : i < m) (x : Nat) (hx : lb (packL xs) i = x) : PkI xs m (i + 1) (o.set i x) := by
  refine ⟨by simp [h.len], fun j hj => ?_⟩
  rw [lb_set _ _ _ _ (by rw [h.len]; exact hi)]
  by_cases e : i = j
  · rw [if_pos e, ← e, hx]
  · rw [if_neg e]; exact h.at_ j (by omega)
theorem PkI.done {xs : List Nat} {m : Nat} {o : List Nat} (h : PkI xs m m o) (hm : (packL xs).length = m) : o = packL xs :=
  ext_lb (by rw [h.len, hm]) fun j hj => h.at_ j (by rw [← h.len]; exact hj)

set_option maxRecDepth 100000 in
set_option maxHeartbeats 4000000 in
theorem pack_calls (w : World) (v : Value) (xs : List Nat) (h : U w v xs) (hl : xs.length ≤ 1000000) (m : Nat) (hm : (xs.length + 1) / 2 = m) :
    Calls Tryd.prog 39 #[v] w fun e w' => e = .returned (.slice (some ⟨w.heap.size, 0, none⟩) m m) ∧ Ow w' w.heap.size (.slice (some ⟨w.heap.size, 0, none⟩) m m) (packL xs) ∧ Ext w w' := by
  obtain ⟨A, c, rfl, ⟨hc, hmx⟩, hx, hr⟩ := h
  obtain ⟨i0, hi, hz0, hz1, hz2⟩ := info_parts info64
  obtain ⟨n, hn⟩ : ∃ n, xs.length = n := ⟨_, rfl⟩
  rw [hn] at hc hmx hr hl hm ⊢
  have HM : Hid ((packL xs).length = m) := by rw [Hid, packL_len, hn]; exact hm
  have HN := Lib.hid hn
  have HXL := Lib.hid (lb_packL xs)
  have hmi : ((n : Int) + 1) / 2 = (m : Int) := by omega
  obtain ⟨q, hq⟩ : ∃ q, n / 2 = q := ⟨_, rfl⟩
  have hqi : (n : Int) / 2 = (q : Int) := by omega
  obtain ⟨B, hB⟩ : ∃ B, w.heap.size = B := ⟨_, rfl⟩
  rw [hB]
  have HBS := Lib.hid hB
  have hm1 : m ≤ 1000000 := by omega
  clear hn
  go_enter Tryd.func39, Tryd.ntmps39
  go_wp2_with (at_make; refine wpList_make_full _ rfl _ _ 53 rfl w.heap.size 36 i0 (.int .u64 0) 1 Tryd.underlying53 hi hz0 hz1 _ _ _ _ m rfl rfl (by omega) (by omega) (by rw [hz2]; omega) (by unfold maxLen; omega) (Nat.le_refl _) ?_; intro w1 hown hgrow)
  have ho0 := Ow.zeros hown
  have hE0 : Ext w w1 := (Ext.refl w).grown hgrow (Nat.le_refl _) (fun _ h => by cases h)
  rw [hB] at ho0
  clear hown hgrow hi hz0 hz1 hz2 i0
  go_wp2
  go_loopw [13] (fun t wr => ∃ (i : Nat) (o : List Nat), i ≤ q ∧ t = .int .i64 (i : Nat) ∧ Hid (PkI xs m i o) ∧ Ow wr B (.slice (some ⟨B, 0, none⟩) m m) o ∧ Ext w wr) (fun t _ => q - (intOf t).toNat)
  case atStart => exact ⟨0, _, Nat.zero_le _, rfl, ⟨by simp, fun j hj => absurd hj (by omega)⟩, ho0, hE0⟩
  case round =>
    clear ho0 hE0
    obtain ⟨i, o, hiq, rfl, HO, hown, hE⟩ := hrel
    by_cases hlt : i < q
    · obtain ⟨ad, rfl, hb, hcell⟩ := hr (by omega)
      have hc0 := (hE.cell (p := ad.add (2 * i)) (by rw [addr_add_block]; exact hb)).trans (hcell (2 * i) (by omega))
      have hc1 := (hE.cell (p := ad.add (2 * i + 1)) (by rw [addr_add_block]; exact hb)).trans (hcell (2 * i + 1) (by omega))
      rw [addr_at _ (2 * i + 1) (by omega)] at hc1
      have hb0 := lb_lt hx (2 * i)
      have hb1 := lb_lt hx (2 * i + 1)
      have hz := HXL.out i
      obtain ⟨x, hx0⟩ : ∃ x, lb xs (2 * i) = x := ⟨_, rfl⟩
      obtain ⟨y, hy0⟩ : ∃ y, lb xs (2 * i + 1) = y := ⟨_, rfl⟩
      rw [hx0] at hc0 hb0 hz
      rw [hy0] at hc1 hb1 hz
      obtain ⟨z, hzz⟩ : ∃ z, x + 4294967296 * y = z := ⟨_, rfl⟩
      rw [hzz] at hz
      have hor := u64_or32 x y z hb0 hb1 hzz
      have hyi : (y : Int) * 4294967296 = ((4294967296 * y : Nat) : Int) := by omega
      have hyw : IntKind.u64.wrap ((4294967296 * y : Nat) : Int) = ((4294967296 * y : Nat) : Int) := by rw [IntKind.wrap_u64]; omega
      have hym : ((4294967296 * y : Nat) : Int) % 18446744073709551616 = ((4294967296 * y : Nat) : Int) := by omega
      have hxw : IntKind.u64.wrap (x : Int) = (x : Int) := by rw [IntKind.wrap_u64]; omega
      have hyw2 : IntKind.u64.wrap (y : Int) = (y : Int) := by rw [IntKind.wrap_u64]; omega
      have hf := hown.frozen i
      have hcz := hown.cell (j := i) (by omega)
      have hown2 := hown.set_ i z
      have hE2 := hE.setCell (p := ⟨B, i, none⟩) (by rw [hB]; exact Nat.le_refl _) (.int .u64 (z : Nat))
      have HST : Hid (PkI xs m (i + 1) (o.set i z)) := HO.out.step (by omega) z hz
      generalize 4294967296 * y = y2 at *
      have h2a : (0 : Int) ≤ 2 * (i : Int) := by omega
      have h2b : 2 * (i : Int) < (n : Int) := by omega
      have h2c : 2 * (i : Int) + 1 < (n : Int) := by omega
      have h2d : (2 * (i : Int)).toNat = 2 * i := by omega
      have h2e : (2 * (i : Int) + 1).toNat = 2 * i + 1 := by omega
      have h2f : (i : Int) < (m : Int) := by omega
      have hbn : (ad.add (2 * i)).block ≠ B := by rw [addr_add_block]; omega
      have hbn2 : ad.block ≠ B := by omega
      clear hx0 hy0 hz hzz hb0 hb1 hown HO hE
      go_wp2
      go_region
      all_goals
        go_wp2
        go_roundw
        case rel => exact ⟨i + 1, _, by omega, by go_num, HST, hown2.drew, hE2.drew⟩
        case measure => simp [intOf]; omega
    · obtain rfl : i = q := by omega
      by_cases hodd : n % 2 = 1
      · have hmm : m = i + 1 := by omega
        have hm2 : (n : Int).tmod 2 = 1 := by rw [Int.tmod_eq_emod_of_nonneg (by omega)]; omega
        have hm3 : (n : Int) % 2 = 1 := by omega
        obtain ⟨ad, rfl, hb, hcell⟩ := hr (by omega)
        have hc0 := (hE.cell (p := ad.add (2 * i)) (by rw [addr_add_block]; exact hb)).trans (hcell (2 * i) (by omega))
        have hz := HXL.out i
        rw [lb_out (o := xs) (j := 2 * i + 1) (by rw [HN.out]; omega), Nat.mul_zero, Nat.add_zero] at hz
        have hb0 := lb_lt hx (2 * i)
        obtain ⟨x, hx0⟩ : ∃ x, lb xs (2 * i) = x := ⟨_, rfl⟩
        rw [hx0] at hc0 hb0 hz
        have hxw : IntKind.u64.wrap (x : Int) = (x : Int) := by rw [IntKind.wrap_u64]; omega
        have hf := hown.frozen i
        have hcz := hown.cell (j := i) (by omega)
        have hown2 := hown.set_ i x
        have hE2 := hE.setCell (p := ⟨B, i, none⟩) (by rw [hB]; exact Nat.le_refl _) (.int .u64 (x : Nat))
        have HST : Hid (PkI xs m (i + 1) (o.set i x)) := HO.out.step (by omega) x hz
        rw [← hmm] at HST
        have hdone := HST.out.done HM.out
        rw [hdone] at hown2
        have e1 : (n : Int) - 1 = ((2 * i : Nat) : Int) := by omega
        have e2 : (m : Int) - 1 = (i : Int) := by omega
        have e3 : 2 * i < n := by omega
        have e4 : i < m := by omega
        clear hx0 hz hb0 hown HO hE hdone HST
        go_wp2
        go_ret
        exact ⟨rfl, hown2, hE2⟩
      · have hmm : m = i := by omega
        have hm2 : (n : Int).tmod 2 = 0 := by rw [Int.tmod_eq_emod_of_nonneg (by omega)]; omega
        have hm3 : (n : Int) % 2 = 0 := by omega
        subst hmm
        have hdone := HO.out.done HM.out
        rw [hdone] at hown
        clear hdone HO
        go_wp2
        go_ret
        exact ⟨rfl, hown, hE⟩

/-- The natural of limbs: noughts at the end are cut. -/
theorem trim32_calls (w : World) (v : Value) (xs : List Nat) (h : U w v xs) :
    Calls Tryd.prog 40 #[v] w fun e w' => (∃ u, e = .returned u ∧ Un w u (val xs)) ∧ w = w' := by
  have h' := h
  obtain ⟨A, c, rfl, ⟨hc, hm⟩, hx, hr⟩ := h
  go_enter Tryd.func40, Tryd.ntmps40
  go_wp2
  go_loop [3] (fun n => ∃ k : Nat, k ≤ xs.length ∧ n = .int .i64 k ∧ Hid (∀ j, k ≤ j → j < xs.length → lb xs j = 0)) (fun n => (intOf n).toNat)
  case atStart => exact ⟨xs.length, Nat.le_refl _, rfl, fun j h1 h2 => by omega⟩
  case round =>
    obtain ⟨k, hk, rfl, hz⟩ := hrel
    have hfin : ∀ c', k ≤ c' → (0 < k → lb xs (k - 1) ≠ 0) → Un w (.slice A k c') (val xs) := fun c' h1 h2 => by
      unfold Un; rw [strip_eq xs k hx hk hz.out h2]; exact h'.take hk h1
    rcases Nat.eq_zero_or_pos k with rfl | h0
    · have HF := Lib.hid (hfin 0 (Nat.le_refl _) (fun h => absurd h (by omega)))
      clear hfin
      go_wp2
      go_ways
      go_ret
      exact ⟨⟨_, rfl, HF.out⟩, rfl⟩
    · obtain ⟨ad, rfl, hb, hcell⟩ := hr (by omega)
      have hc1 := hcell (k - 1) (by omega)
      by_cases hx0 : lb xs (k - 1) = 0
      · have ht : ((((lb xs (k - 1) : Nat)) : Int) == 0) = true := by rw [hx0]; rfl
        have HX := Lib.hid hx0
        clear hx0
        go_wp2
        go_round
        case rel => exact ⟨k - 1, by omega, by go_num, fun j h1 h2 => by
          rcases Nat.lt_or_ge j k with h3 | h3
          · have : j = k - 1 := by omega
            subst this; exact HX.out
          · exact hz.out j h3 h2⟩
        case measure => simp [intOf]; omega
      · have ht : ((((lb xs (k - 1) : Nat)) : Int) == 0) = false := by rw [beq_eq_false_iff_ne]; omega
        have HF := Lib.hid (hfin k (Nat.le_refl _) (fun _ => hx0))
        clear hfin hx0
        go_wp2
        go_ret
        exact ⟨⟨_, rfl, HF.out⟩, rfl⟩

structure UnI (ws : List Nat) (m i : Nat) (o : List Nat) : Prop where
  len : o.length = m
  at_ : ∀ j, j < 2 * i → lb o j = lb (unpackL ws) j
theorem UnI.step {ws : List Nat} {m i : Nat} {o : List Nat} (h : UnI ws m i o) (hi : 2 * i + 1 < m) (x : Nat) (hx : lb ws i = x) : UnI ws m (i + 1) ((o.set (2 * i) (x % 4294967296)).set (2 * i + 1) (x / 4294967296)) := by
  refine ⟨by simp [h.len], fun j hj => ?_⟩
  have hu := lb_unpackL ws i
  rw [hx] at hu
  rw [lb_set _ _ _ _ (by rw [List.length_set, h.len]; exact hi), lb_set _ _ _ _ (by rw [h.len]; omega)]
  by_cases e : 2 * i + 1 = j
  · rw [if_pos e, ← e, hu.2]
  · rw [if_neg e]
    by_cases e2 : 2 * i = j
    · rw [if_pos e2, ← e2, hu.1]
    · rw [if_neg e2]; exact h.at_ j (by omega)
theorem UnI.done {ws : List Nat} {m i : Nat} {o : List Nat} (h : UnI ws m i o) (hm : (unpackL ws).length = m) (hi : 2 * i = m) : o = unpackL ws :=
  ext_lb (by rw [h.len, hm]) fun j hj => h.at_ j (by rw [hi, ← h.len]; exact hj)

set_option maxRecDepth 100000 in
set_option maxHeartbeats 4000000 in
theorem unpack_calls (w : World) (g0 : Nat) (v : Value) (ws : List Nat) (h : V g0 w v ws) (hl : ws.length ≤ 1000000) :
    Calls Tryd.prog 37 #[v] w fun e w' => (∃ u, e = .returned u ∧ Un w' u (wal ws)) ∧ Ext w w' := by
  obtain ⟨A, c, rfl, ⟨hc, hmx⟩, hx, hr⟩ := h
  obtain ⟨i0, hi, hz0, hz1, hz2⟩ := info_parts info32
  obtain ⟨n, hn⟩ : ∃ n, ws.length = n := ⟨_, rfl⟩
  rw [hn] at hc hmx hr hl ⊢
  obtain ⟨m, hm⟩ : ∃ m, 2 * n = m := ⟨_, rfl⟩
  have HM : Hid ((unpackL ws).length = m) := by rw [Hid, unpackL_len, hn]; exact hm
  have hmi : (2 : Int) * (n : Int) = (m : Int) := by omega
  obtain ⟨B, hB⟩ : ∃ B, w.heap.size = B := ⟨_, rfl⟩
  have hm1 : m ≤ 2000000 := by omega
  have HW := Lib.hid (unpackL_lt ws hx)
  have HV := Lib.hid (val_unpackL ws)
  have HTR := Lib.hid (fun W v h => trim32_calls W v (unpackL ws) h)
  clear hn
  go_enter Tryd.func37, Tryd.ntmps37
  go_wp2_with (at_make; refine wpList_make_full _ rfl _ _ 22 rfl w.heap.size 35 i0 (.int .u32 0) 1 Tryd.underlying22 hi hz0 hz1 _ _ _ _ m rfl rfl (by omega) (by omega) (by rw [hz2]; omega) (by unfold maxLen; omega) (Nat.le_refl _) ?_; intro w1 hown hgrow)
  have ho0 : Own w1 w.heap.size (.slice (some ⟨w.heap.size, 0, none⟩) m m) (List.replicate m 0) := by
    have := Own.zeros hown
    rwa [List.length_replicate] at this
  have hE0 : Ext w w1 := (Ext.refl w).grown hgrow (Nat.le_refl _) (fun _ h => by cases h)
  rw [hB] at ho0
  clear hown hgrow hi hz0 hz1 hz2 i0
  go_wp2
  go_loopw [12] (fun t wr => ∃ (i : Nat) (o : List Nat), i ≤ n ∧ t = .int .i64 (i : Nat) ∧ Hid (UnI ws m i o) ∧ Own wr B (.slice (some ⟨B, 0, none⟩) m m) o ∧ Ext w wr) (fun t _ => n - (intOf t).toNat)
  case atStart => exact ⟨0, _, Nat.zero_le _, rfl, ⟨by simp, fun j hj => absurd hj (by omega)⟩, ho0, hE0⟩
  case round =>
    clear ho0 hE0
    obtain ⟨i, o, hiq, rfl, HO, hown, hE⟩ := hrel
    by_cases hlt : i < n
    · obtain ⟨ad, rfl, hb, hne, hcell⟩ := hr (by omega)
      have hc0 := (hE.cell (p := ad.add i) (by rw [addr_add_block]; exact hb)).trans (hcell i hlt)
      have hb0 : lb ws i < 18446744073709551616 := lb_lt_of (by decide) hx i
      obtain ⟨x, hx0⟩ : ∃ x, lb ws i = x := ⟨_, rfl⟩
      rw [hx0] at hc0 hb0
      have HST : Hid (UnI ws m (i + 1) ((o.set (2 * i) (x % 4294967296)).set (2 * i + 1) (x / 4294967296))) := HO.out.step (by omega) x hx0
      have hol := HO.out.len
      have hf0 := hown.frozen' (2 * i)
      have hf1 := hown.frozen' (2 * i + 1)
      have hk0 := hown.rd.2 (2 * i) (by omega)
      have hk1 := hown.rd.2 (2 * i + 1) (by omega)
      have hown2 := (hown.set' (2 * i) (x % 4294967296)).set' (2 * i + 1) (x / 4294967296)
      have hE2 := (hE.setCell (p := ⟨B, 2 * i, none⟩) (by rw [hB]; exact Nat.le_refl _) (.int .u32 (x % 4294967296 : Nat))).setCell (p := ⟨B, 2 * i + 1, none⟩) (by rw [hB]; exact Nat.le_refl _) (.int .u32 (x / 4294967296 : Nat))
      obtain ⟨x0, hxx0⟩ : ∃ x0, x % 4294967296 = x0 := ⟨_, rfl⟩
      obtain ⟨x1, hxx1⟩ : ∃ x1, x / 4294967296 = x1 := ⟨_, rfl⟩
      rw [hxx0, hxx1] at HST hown2 hE2
      have f0 : IntKind.u32.wrap (x : Int) = (x0 : Int) := by rw [IntKind.wrap_u32]; omega
      have f00 : (x : Int) % 4294967296 = (x0 : Int) := by omega
      have f1 : (x : Int) / 4294967296 = (x1 : Int) := by omega
      have hx1b : x1 < 4294967296 := by omega
      have f2 : IntKind.u32.wrap (x1 : Int) = (x1 : Int) := by rw [IntKind.wrap_u32]; omega
      have f3 : (x1 : Int) % 4294967296 = (x1 : Int) := by omega
      have h2a : (0 : Int) ≤ 2 * (i : Int) := by omega
      have h2b : 2 * (i : Int) < (m : Int) := by omega
      have h2c : 2 * (i : Int) + 1 < (m : Int) := by omega
      have h2d : (2 * (i : Int)).toNat = 2 * i := by omega
      have h2e : (2 * (i : Int) + 1).toNat = 2 * i + 1 := by omega
      have hbn : (ad.add i).block ≠ B := by rw [addr_add_block]; omega
      clear hx0 hb0 hxx0 hxx1 hown HO hE hol
      go_wp2
      go_roundw
      case rel => exact ⟨i + 1, _, by omega, by go_num, HST, hown2, hE2⟩
      case measure => simp [intOf]; omega
    · obtain rfl : i = n := by omega
      have hdone := HO.out.done HM.out hm
      rw [hdone] at hown
      have hu := hown.toU HW.out (by rw [HM.out]; omega)
      clear hdone HO hown
      go_wp2_with (fail)
      refine (HTR.out _ _ hu).mono ?_
      rintro e w2 ⟨⟨u, rfl, hu2⟩, rfl⟩
      rw [HV.out] at hu2
      have HF : Hid (∃ u', Ending.returned u = .returned u' ∧ Un wr u' (wal ws)) := ⟨_, rfl, hu2⟩
      clear hu2 hu
      go_wp2
      go_ret
      exact ⟨HF.out, hE⟩
end Go.Proofs.YtkmejhkdmnjbeaaDoor
/- Words added to a row, and taken away from it. -/
namespace Go.Proofs.YtkmejhkdmnjbeaaDoor
open Go.RowKit
set_option linter.unusedVariables false
set_option maxHeartbeats 400000

theorem run_addc (x y c s d : Nat) (hc : c ≤ 1) (hs : (x + y + c) % 18446744073709551616 = s) (hd : (x + y + c) / 18446744073709551616 = d) (w : World) :
    (callFunc 47 #[.int .u64 (x : Nat), .int .u64 (y : Nat), .int .u64 (c : Nat)]).run Tryd.prog w = .ok (.value (.tuple #[.int .u64 (s : Nat), .int .u64 (d : Nat)])) w := by
  rw [run_callFunc_extern Tryd.func47 (by kernel_rfl) (by kernel_rfl) (by kernel_rfl) (e := add64Entry) (by kernel_rfl), run_add64 x y c (by omega) (by omega) (by omega) (by omega), ← hs, ← hd]
  simp only [Result.andThen]
  congr 5 <;> omega
theorem run_subc (x y b s d : Nat) (hb : b ≤ 1) (hs : (x + 18446744073709551616 - y - b) % 18446744073709551616 = s) (hd : (if x < y + b then 1 else 0) = d) (w : World) :
    (callFunc 92 #[.int .u64 (x : Nat), .int .u64 (y : Nat), .int .u64 (b : Nat)]).run Tryd.prog w = .ok (.value (.tuple #[.int .u64 (s : Nat), .int .u64 (d : Nat)])) w := by
  rw [run_callFunc_extern Tryd.func92 (by kernel_rfl) (by kernel_rfl) (by kernel_rfl) (e := sub64Entry) (by kernel_rfl), run_sub64 x y b hb, hs, hd]
  rfl

/-- The first i words are added. -/
structure AdI (n off : Nat) (A : Nat) (i : Nat) (o : List Nat) (cy : Nat) : Prop where
  len : o.length = n
  lt : ∀ x ∈ o, x < 18446744073709551616
  cy1 : cy ≤ 1
  val : wal o + BB ^ (off + i) * cy = A
theorem AdI.step {n off A i : Nat} {o : List Nat} {cy : Nat} (h : AdI n off A i o cy) (hi : off + i < n) (y s d : Nat) (hy : y < 18446744073709551616)
    (hs : (lb o (off + i) + y + cy) % 18446744073709551616 = s) (hd : (lb o (off + i) + y + cy) / 18446744073709551616 = d) : AdI n off (A + BB ^ (off + i) * y) (i + 1) (o.set (off + i) s) d := by
  have hx : lb o (off + i) < 18446744073709551616 := lb_lt_of (by decide) h.lt _
  have h1 := h.cy1
  refine ⟨by simp [h.len], set_lt h.lt (by omega), by omega, ?_⟩
  rw [← Nat.add_assoc, Nat.pow_succ]
  exact wadd_step _ _ _ _ _ _ _ _ _ (wal_set o (off + i) s (by rw [h.len]; exact hi)) h.val (by unfold BB; omega)
/-- The first i words are taken away. -/
structure SbI (n off : Nat) (A T : Nat) (i : Nat) (o : List Nat) (cy : Nat) : Prop where
  len : o.length = n
  lt : ∀ x ∈ o, x < 18446744073709551616
  cy1 : cy ≤ 1
  val : wal o + T = A + BB ^ (off + i) * cy
theorem SbI.step {n off A T i : Nat} {o : List Nat} {cy : Nat} (h : SbI n off A T i o cy) (hi : off + i < n) (y s d : Nat) (hy : y < 18446744073709551616)
    (hs : (lb o (off + i) + 18446744073709551616 - y - cy) % 18446744073709551616 = s) (hd : (if lb o (off + i) < y + cy then 1 else 0) = d) : SbI n off A (T + BB ^ (off + i) * y) (i + 1) (o.set (off + i) s) d := by
  have hx : lb o (off + i) < 18446744073709551616 := lb_lt_of (by decide) h.lt _
  have h1 := h.cy1
  have hd1 : d ≤ 1 := by rw [← hd]; split <;> omega
  refine ⟨by simp [h.len], set_lt h.lt (by omega), hd1, ?_⟩
  rw [show off + (i + 1) = off + i + 1 from rfl, Nat.pow_succ]
  refine wsub_step _ _ _ _ _ _ _ _ _ _ (wal_set o (off + i) s (by rw [h.len]; exact hi)) h.val ?_
  unfold BB
  split at hd <;> omega

set_option maxRecDepth 100000 in
set_option maxHeartbeats 4000000 in
theorem addTo_calls (w : World) (g base n c off zl zc : Nat) (o as_ : List Nat) (va : Value) (hown : Ow w base (.slice (some ⟨g, 0, none⟩) n c) o) (ho : ∀ x ∈ o, x < 18446744073709551616)
    (hz : off + zl ≤ n) (hzc : zl ≤ zc) (hn : n ≤ 1000000) (ha : V g w va as_) (hal : as_.length ≤ zl) :
    Calls Tryd.prog 46 #[.slice (some ⟨g, off, none⟩) zl zc, va] w fun e w' => (∃ o' cy, e = .returned (.int .u64 (cy : Nat)) ∧ AdI n off (wal o + BB ^ off * wal as_) zl o' cy ∧ Ow w' base (.slice (some ⟨g, 0, none⟩) n c) o') ∧ But g w w' := by
  have hlim := ha.lim
  obtain ⟨A, ca, rfl, ⟨hca, hma⟩, hx, hr⟩ := id ha
  obtain ⟨na, hna⟩ : ∃ na, as_.length = na := ⟨_, rfl⟩
  have hcap := hown.caps
  have hgb := hown.block.2
  have HN := Lib.hid hna
  have HS : Hid (AdI n off (wal o + BB ^ off * wal (as_.take 0)) 0 o 0) := ⟨hcap.1.symm, ho, Nat.zero_le _, by simp [wal]⟩
  have HTK := Lib.hid (fun k => wal_take_succ as_ k)
  have HT2 : Hid (as_.take na = as_) := by rw [Hid, ← hna]; exact List.take_length
  rw [hna] at hca hma hr hal ⊢
  have hB0 := But.refl g w
  clear ha hna hcap ho
  go_enter Tryd.func46, Tryd.ntmps46
  go_wp2
  go_loopw [16, 5] (fun t s wr => ∃ (i : Nat) (o' : List Nat) (cy : Nat), i ≤ na ∧ t = .int .i64 (i : Nat) ∧ s = .int .u64 (cy : Nat) ∧ Hid (AdI n off (wal o + BB ^ off * wal (as_.take i)) i o' cy) ∧ Ow wr base (.slice (some ⟨g, 0, none⟩) n c) o' ∧ But g w wr) (fun t _ _ => na - (intOf t).toNat)
  case atStart => exact ⟨0, o, 0, Nat.zero_le _, rfl, rfl, HS, hown, hB0⟩
  case round =>
    clear HS hown hB0
    obtain ⟨i, o', cy, hi, rfl, rfl, HO, hown, hB⟩ := hrel
    by_cases hlt : i < na
    · obtain ⟨ad, rfl, hb, hne, hcell⟩ := hr (by omega)
      have hc0 := (hB.cell (p := ad.add i) (by rw [addr_add_block]; exact hb) (by rw [addr_add_block]; exact hne)).trans (hcell i hlt)
      have hy : lb as_ i < 18446744073709551616 := lb_lt_of (by decide) hx i
      have htk := HTK.out i (by rw [HN.out]; exact hlt)
      have hcz := hown.cell (j := off + i) (by omega)
      have hf := hown.frozen (off + i)
      have hx1 : lb o' (off + i) < 18446744073709551616 := lb_lt_of (by decide) HO.out.lt _
      have hcy := HO.out.cy1
      obtain ⟨y, hyy⟩ : ∃ y, lb as_ i = y := ⟨_, rfl⟩
      rw [hyy] at hc0 hy htk
      obtain ⟨s, hs⟩ : ∃ s, (lb o' (off + i) + y + cy) % 18446744073709551616 = s := ⟨_, rfl⟩
      obtain ⟨d, hd⟩ : ∃ d, (lb o' (off + i) + y + cy) / 18446744073709551616 = d := ⟨_, rfl⟩
      have hst := HO.out.step (by omega) y s d hy hs hd
      rw [Nat.add_assoc (wal o), Nat.pow_add, Nat.mul_assoc, ← Nat.mul_add, ← htk] at hst
      have HST := Lib.hid hst
      have hown2 := hown.set_ (off + i) s
      have hB2 := hB.setCell (off + i) (.int .u64 (s : Nat))
      obtain ⟨x, hxx⟩ : ∃ x, lb o' (off + i) = x := ⟨_, rfl⟩
      rw [hxx] at hs hd hcz hx1
      have hadd := run_addc x y cy s d hcy hs hd
      clear hst htk hyy hs hd hxx hown hB HO hy hx1 hcy
      go_wp2
      go_roundw
      case rel => exact ⟨i + 1, _, d, by omega, by go_num, rfl, HST, hown2, hB2⟩
      case measure => simp [intOf]; omega
    · obtain rfl : i = na := by omega
      rw [HT2.out] at HO
      clear hr hlt
      go_wp2
      go_loopw [9, 5] (fun t s wx => ∃ (j : Nat) (o2 : List Nat) (cy2 : Nat), j ≤ zl ∧ t = .int .i64 (j : Nat) ∧ s = .int .u64 (cy2 : Nat) ∧ Hid (AdI n off (wal o + BB ^ off * wal as_) j o2 cy2) ∧ Ow wx base (.slice (some ⟨g, 0, none⟩) n c) o2 ∧ But g w wx) (fun t _ _ => zl - (intOf t).toNat)
      case atStart => exact ⟨i, o', cy, hal, rfl, rfl, HO, hown, hB⟩
      case round =>
        clear hown hB HO
        obtain ⟨j, o2, cy2, hj, rfl, rfl, HO, hown, hB⟩ := hrel
        have hcy := HO.out.cy1
        by_cases h0 : cy2 = 0
        · subst h0
          have HF : Hid (∃ o' cy, Ending.returned (.int .u64 0) = .returned (.int .u64 (cy : Nat)) ∧ AdI n off (wal o + BB ^ off * wal as_) zl o' cy ∧ Ow wr base (.slice (some ⟨g, 0, none⟩) n c) o') := ⟨o2, 0, rfl, ⟨HO.out.len, HO.out.lt, Nat.zero_le _, by have := HO.out.val; simpa using this⟩, hown⟩
          clear hown HO
          go_wp2
          go_ret
          exact ⟨HF.out, hB⟩
        · have hne : (((cy2 : Nat) : Int) != 0) = true := by rw [bne_iff_ne]; omega
          by_cases hjz : j < zl
          · have hcz := hown.cell (j := off + j) (by omega)
            have hf := hown.frozen (off + j)
            have hx1 : lb o2 (off + j) < 18446744073709551616 := lb_lt_of (by decide) HO.out.lt _
            obtain ⟨s, hs⟩ : ∃ s, (lb o2 (off + j) + 0 + cy2) % 18446744073709551616 = s := ⟨_, rfl⟩
            obtain ⟨d, hd⟩ : ∃ d, (lb o2 (off + j) + 0 + cy2) / 18446744073709551616 = d := ⟨_, rfl⟩
            have hst := HO.out.step (by omega) 0 s d (by decide) hs hd
            rw [Nat.mul_zero, Nat.add_zero] at hst
            have HST := Lib.hid hst
            have hown2 := hown.set_ (off + j) s
            have hB2 := hB.setCell (off + j) (.int .u64 (s : Nat))
            obtain ⟨x, hxx⟩ : ∃ x, lb o2 (off + j) = x := ⟨_, rfl⟩
            rw [hxx] at hs hd hcz hx1
            have hadd : ∀ w, (callFunc 47 #[.int .u64 (x : Nat), .int .u64 0, .int .u64 (cy2 : Nat)]).run Tryd.prog w = .ok (.value (.tuple #[.int .u64 (s : Nat), .int .u64 (d : Nat)])) w := run_addc x 0 cy2 s d hcy hs hd
            clear hst hs hd hxx hown hB HO hx1 hcy h0
            go_wp2
            go_roundw
            case rel => exact ⟨j + 1, _, d, by omega, by go_num, rfl, HST, hown2, hB2⟩
            case measure => simp [intOf]; omega
          · obtain rfl : j = zl := by omega
            have HF : Hid (∃ o' cy, Ending.returned (.int .u64 (cy2 : Nat)) = .returned (.int .u64 (cy : Nat)) ∧ AdI n off (wal o + BB ^ off * wal as_) j o' cy ∧ Ow wr base (.slice (some ⟨g, 0, none⟩) n c) o') := ⟨o2, cy2, rfl, HO.out, hown⟩
            clear hown HO h0
            go_wp2
            go_ret
            exact ⟨HF.out, hB⟩
set_option maxRecDepth 100000 in
set_option maxHeartbeats 4000000 in
theorem takeFrom_calls (w : World) (g base n c off zl zc : Nat) (o as_ : List Nat) (va : Value) (hown : Ow w base (.slice (some ⟨g, 0, none⟩) n c) o) (ho : ∀ x ∈ o, x < 18446744073709551616)
    (hz : off + zl ≤ n) (hzc : zl ≤ zc) (hn : n ≤ 1000000) (ha : V g w va as_) (hal : as_.length ≤ zl) :
    Calls Tryd.prog 83 #[.slice (some ⟨g, off, none⟩) zl zc, va] w fun e w' => e = .returned (.tuple #[]) ∧ (∃ o' cy, SbI n off (wal o) (BB ^ off * wal as_) zl o' cy ∧ Ow w' base (.slice (some ⟨g, 0, none⟩) n c) o') ∧ But g w w' := by
  have hlim := ha.lim
  obtain ⟨A, ca, rfl, ⟨hca, hma⟩, hx, hr⟩ := id ha
  obtain ⟨na, hna⟩ : ∃ na, as_.length = na := ⟨_, rfl⟩
  have hcap := hown.caps
  have hgb := hown.block.2
  have HN := Lib.hid hna
  have HS : Hid (SbI n off (wal o) (BB ^ off * wal (as_.take 0)) 0 o 0) := ⟨hcap.1.symm, ho, Nat.zero_le _, by simp [wal]⟩
  have HTK := Lib.hid (fun k => wal_take_succ as_ k)
  have HT2 : Hid (as_.take na = as_) := by rw [Hid, ← hna]; exact List.take_length
  rw [hna] at hca hma hr hal ⊢
  have hB0 := But.refl g w
  clear ha hna hcap ho
  go_enter Tryd.func83, Tryd.ntmps83
  go_wp2
  go_loopw [15, 4] (fun t s wr => ∃ (i : Nat) (o' : List Nat) (cy : Nat), i ≤ na ∧ t = .int .i64 (i : Nat) ∧ s = .int .u64 (cy : Nat) ∧ Hid (SbI n off (wal o) (BB ^ off * wal (as_.take i)) i o' cy) ∧ Ow wr base (.slice (some ⟨g, 0, none⟩) n c) o' ∧ But g w wr) (fun t _ _ => na - (intOf t).toNat)
  case atStart => exact ⟨0, o, 0, Nat.zero_le _, rfl, rfl, HS, hown, hB0⟩
  case round =>
    clear HS hown hB0
    obtain ⟨i, o', cy, hi, rfl, rfl, HO, hown, hB⟩ := hrel
    by_cases hlt : i < na
    · obtain ⟨ad, rfl, hb, hne, hcell⟩ := hr (by omega)
      have hc0 := (hB.cell (p := ad.add i) (by rw [addr_add_block]; exact hb) (by rw [addr_add_block]; exact hne)).trans (hcell i hlt)
      have hy : lb as_ i < 18446744073709551616 := lb_lt_of (by decide) hx i
      have htk := HTK.out i (by rw [HN.out]; exact hlt)
      have hcz := hown.cell (j := off + i) (by omega)
      have hf := hown.frozen (off + i)
      have hx1 : lb o' (off + i) < 18446744073709551616 := lb_lt_of (by decide) HO.out.lt _
      have hcy := HO.out.cy1
      obtain ⟨y, hyy⟩ : ∃ y, lb as_ i = y := ⟨_, rfl⟩
      rw [hyy] at hc0 hy htk
      obtain ⟨s, hs⟩ : ∃ s, (lb o' (off + i) + 18446744073709551616 - y - cy) % 18446744073709551616 = s := ⟨_, rfl⟩
      obtain ⟨d, hd⟩ : ∃ d, (if lb o' (off + i) < y + cy then 1 else 0) = d := ⟨_, rfl⟩
      have hst := HO.out.step (by omega) y s d hy hs hd
      rw [Nat.pow_add, Nat.mul_assoc, ← Nat.mul_add, ← htk] at hst
      have HST := Lib.hid hst
      have hown2 := hown.set_ (off + i) s
      have hB2 := hB.setCell (off + i) (.int .u64 (s : Nat))
      obtain ⟨x, hxx⟩ : ∃ x, lb o' (off + i) = x := ⟨_, rfl⟩
      rw [hxx] at hs hd hcz hx1
      have hadd := run_subc x y cy s d hcy hs hd
      clear hst htk hyy hs hd hxx hown hB HO hy hx1 hcy
      go_wp2
      go_roundw
      case rel => exact ⟨i + 1, _, d, by omega, by go_num, rfl, HST, hown2, hB2⟩
      case measure => simp [intOf]; omega
    · obtain rfl : i = na := by omega
      rw [HT2.out] at HO
      clear hr hlt
      go_wp2
      go_loopw [8, 4] (fun t s wx => ∃ (j : Nat) (o2 : List Nat) (cy2 : Nat), j ≤ zl ∧ t = .int .i64 (j : Nat) ∧ s = .int .u64 (cy2 : Nat) ∧ Hid (SbI n off (wal o) (BB ^ off * wal as_) j o2 cy2) ∧ Ow wx base (.slice (some ⟨g, 0, none⟩) n c) o2 ∧ But g w wx) (fun t _ _ => zl - (intOf t).toNat)
      case atStart => exact ⟨i, o', cy, hal, rfl, rfl, HO, hown, hB⟩
      case round =>
        clear hown hB HO
        obtain ⟨j, o2, cy2, hj, rfl, rfl, HO, hown, hB⟩ := hrel
        have hcy := HO.out.cy1
        by_cases h0 : cy2 = 0
        · subst h0
          have HF : Hid (∃ o' cy, SbI n off (wal o) (BB ^ off * wal as_) zl o' cy ∧ Ow wr base (.slice (some ⟨g, 0, none⟩) n c) o') := ⟨o2, 0, ⟨HO.out.len, HO.out.lt, Nat.zero_le _, by have := HO.out.val; simpa using this⟩, hown⟩
          clear hown HO
          go_wp2
          go_end0
          exact ⟨rfl, HF.out, hB⟩
        · have hne : (((cy2 : Nat) : Int) != 0) = true := by rw [bne_iff_ne]; omega
          by_cases hjz : j < zl
          · have hcz := hown.cell (j := off + j) (by omega)
            have hf := hown.frozen (off + j)
            have hx1 : lb o2 (off + j) < 18446744073709551616 := lb_lt_of (by decide) HO.out.lt _
            obtain ⟨s, hs⟩ : ∃ s, (lb o2 (off + j) + 18446744073709551616 - 0 - cy2) % 18446744073709551616 = s := ⟨_, rfl⟩
            obtain ⟨d, hd⟩ : ∃ d, (if lb o2 (off + j) < 0 + cy2 then 1 else 0) = d := ⟨_, rfl⟩
            have hst := HO.out.step (by omega) 0 s d (by decide) hs hd
            rw [Nat.mul_zero, Nat.add_zero] at hst
            have HST := Lib.hid hst
            have hown2 := hown.set_ (off + j) s
            have hB2 := hB.setCell (off + j) (.int .u64 (s : Nat))
            obtain ⟨x, hxx⟩ : ∃ x, lb o2 (off + j) = x := ⟨_, rfl⟩
            rw [hxx] at hs hd hcz hx1
            have hadd : ∀ w, (callFunc 92 #[.int .u64 (x : Nat), .int .u64 0, .int .u64 (cy2 : Nat)]).run Tryd.prog w = .ok (.value (.tuple #[.int .u64 (s : Nat), .int .u64 (d : Nat)])) w := run_subc x 0 cy2 s d hcy hs hd
            clear hst hs hd hxx hown hB HO hx1 hcy h0
            go_wp2
            go_roundw
            case rel => exact ⟨j + 1, _, d, by omega, by go_num, rfl, HST, hown2, hB2⟩
            case measure => simp [intOf]; omega
          · obtain rfl : j = zl := by omega
            have HF : Hid (∃ o' cy, SbI n off (wal o) (BB ^ off * wal as_) j o' cy ∧ Ow wr base (.slice (some ⟨g, 0, none⟩) n c) o') := ⟨o2, cy2, HO.out, hown⟩
            clear hown HO h0
            go_wp2
            go_end0
            exact ⟨rfl, HF.out, hB⟩
end Go.Proofs.YtkmejhkdmnjbeaaDoor
/- Words copied; sums of rows; a row without words at its end. -/
namespace Go.Proofs.YtkmejhkdmnjbeaaDoor
open Go.RowKit
set_option linter.unusedVariables false
set_option maxHeartbeats 400000

theorem wal_splice (o xs : List Nat) (off : Nat) (h : off + xs.length ≤ o.length) (hz : ∀ j, off ≤ j → j < off + xs.length → lb o j = 0) : wal (splice o off xs) = wal o + BB ^ off * wal xs := by
  have e1 := wal_cut o off (by omega)
  have e2 := wal_cut (o.drop off) xs.length (by rw [List.length_drop]; omega)
  have e3 : wal ((o.drop off).take xs.length) = 0 := by
    have : (o.drop off).take xs.length = List.replicate xs.length 0 := by
      refine ext_lb (by simp; omega) fun j hj => ?_
      have hj' : j < xs.length := by simp at hj; omega
      rw [lb_take hj', lb_drop, lb_zeros, hz _ (by omega) (by omega)]
    rw [this, wal_zeros]
  rw [e3, Nat.zero_add, List.drop_drop] at e2
  unfold splice
  rw [wal_append, wal_append, List.length_take, Nat.min_eq_left (by omega), e1, e2, Nat.mul_add]
  omega
theorem splice_len (o xs : List Nat) (off : Nat) (h : off + xs.length ≤ o.length) : (splice o off xs).length = o.length := length_splice o off xs h
theorem splice_lt (o xs : List Nat) (off : Nat) (ho : ∀ x ∈ o, x < 18446744073709551616) (hx : ∀ x ∈ xs, x < 18446744073709551616) : ∀ x ∈ splice o off xs, x < 18446744073709551616 := by
  intro x h
  unfold splice at h
  rcases List.mem_append.1 h with h | h
  · exact ho x (List.mem_of_mem_take h)
  · rcases List.mem_append.1 h with h | h
    · exact hx x h
    · exact ho x (List.mem_of_mem_drop h)
theorem lb_splice_out (o xs : List Nat) (off j : Nat) (h : off + xs.length ≤ o.length) (hj : off + xs.length ≤ j) : lb (splice o off xs) j = lb o j := by
  unfold splice
  rw [lb_append, if_neg (by simp; omega), lb_append, if_neg (by simp; omega), lb_drop]
  congr 1
  simp; omega
theorem L64_splice (o xs : List Nat) (off : Nat) (t : List Value) (h : off + xs.length ≤ o.length) : splice (L64 o ++ t) off (L64 xs) = L64 (splice o off xs) ++ t := by
  unfold splice
  rw [L64_length, List.take_append_of_le_length (by rw [L64_length]; omega), List.drop_append_of_le_length (by rw [L64_length]; omega)]
  simp [L64, List.map_take, List.map_drop]

theorem wpList_copyW {w : World} {ops : Array Oper} {rest : List Oper} {o : Oper} {a : Act} {Q : Exit → Act → World → Prop} (hgd : o.guard = none) (d s : Operand)
    (ho : o.op = .call { callee := .builtin .copy, args := #[d, s], argTypes := #[53, 53] }) (g off dLen dCap : Nat) (sp : Option Addr) (sLen sCap : Nat)
    (hd : a.eval d = .slice (some ⟨g, off, none⟩) dLen dCap) (hs : a.eval s = .slice sp sLen sCap) (base n c : Nat) (os : List Nat) (hown : Ow w base (.slice (some ⟨g, 0, none⟩) n c) os)
    (xs : List Nat) (hx : V g w (.slice sp sLen sCap) xs) (hle : sLen ≤ dLen) (hfit : off + dLen ≤ n)
    (h : ∀ w', Ow w' base (.slice (some ⟨g, 0, none⟩) n c) (splice os off xs) → But g w w' → wpList Tryd.prog ops Q rest (a.put o.dst (goInt xs.length)) w') : wpList Tryd.prog ops Q (o :: rest) a w := by
  obtain ⟨A, c', hv, hcc, hlim, hr⟩ := hx
  injection hv with q1 q2 q3
  have hi : (Tryd.prog.info? 36).map (·.size) = some 1 := by kernel_rfl
  have hlen : (L64 xs).length = xs.length := L64_length xs
  have hcaps := hown.caps
  rcases Nat.eq_zero_or_pos xs.length with h0 | h0
  · obtain rfl := List.eq_nil_of_length_eq_zero h0
    have q2' : sLen = 0 := q2
    rw [q2'] at hs
    refine wpList_copy_nothing hgd d s 53 53 ho 36 Tryd.underlying53 hi _ _ dLen dCap 0 sCap hd hs (Nat.zero_min _) ?_
    refine h w ?_ (But.refl g w)
    have e : splice os off ([] : List Nat) = os := by simp [splice]
    rw [e]; exact hown
  · obtain ⟨ad, hA, hb, hne, hcell⟩ := hr h0
    have hh0 : w.ownsRow base 36 1 (.slice (some ⟨g, 0, none⟩) n c) os.length (L64 os) := hown
    rcases hh0.2 with ⟨h1, _⟩ | ⟨g', cap, cur, h1, hg, hh, h2, h3, h4, h5⟩
    · cases h1
    · injection h1 with e1 e2 e3
      injection e1 with e1
      injection e1 with e1
      subst e1
      have hcur : cur.toList = L64 os ++ cur.toList.drop os.length := by
        conv => lhs; rw [← List.take_append_drop os.length cur.toList]
        rw [← h5, Nat.mul_one]
      have hsz : os.length ≤ cur.size := by omega
      refine wpList_copy_own hgd d s 53 53 ho 36 Tryd.underlying53 hi g off dLen dCap ad sLen sCap hd (by rw [hs, q1, hA]) cur 36 hh (L64 xs) (by rw [hlen, ← q2]; exact (Nat.min_eq_left hle).symm) ?_ (by rw [hlen]; omega) (by intro u hu; obtain ⟨z, _, rfl⟩ := List.mem_map.1 hu; rfl) ?_
      · intro j u hj
        have hjl : j < xs.length := by
          rcases Nat.lt_or_ge j xs.length with h | h
          · exact h
          · rw [List.getElem?_eq_none (by rw [L64_length]; exact h)] at hj; cases hj
        rw [hcell j hjl, ← L64_get xs hjl, hj]
      · rw [hlen]
        have e : cur.toList.take off ++ (L64 xs ++ cur.toList.drop (off + xs.length)) = L64 (splice os off xs) ++ cur.toList.drop os.length := by
          rw [← L64_splice os xs off _ (by omega), ← hcur]
          unfold splice
          rw [hlen]
        have hsl := splice_len os xs off (by omega)
        refine h _ ?_ ⟨rfl, rfl, rfl, by simp [World.setRow], fun k hk hne => setRow_other w g k _ (fun e => hne (by rw [e]))⟩
        refine ⟨by rw [L64_length, Nat.mul_one], .inr ⟨g, cap, _, by rw [e2, e3, hsl], hg, setRow_heap w g _ _ _ _ hh, by rw [hsl]; exact h2, h3, ?_, ?_⟩⟩
        · rw [e, List.size_toArray, List.length_append, L64_length, hsl, List.length_drop, Array.length_toList (xs := cur)]
          omega
        · rw [e, Nat.mul_one, List.take_append_of_le_length (by rw [L64_length]; exact Nat.le_refl _), ← L64_length (splice os off xs), List.take_length]

set_option maxRecDepth 100000 in
set_option maxHeartbeats 2000000 in
/-- The sum, in a word more than the longer one has. -/
theorem sum_calls (w : World) (q : Nat) (va vb : Value) (as_ bs : List Nat) (ha : V q w va as_) (hb : V q w vb bs) (m : Nat) (hm : max as_.length bs.length + 1 = m) (hm1 : m ≤ 100000) :
    Calls Tryd.prog 82 #[va, vb] w fun e w' => e = .returned (.slice (some ⟨w.heap.size, 0, none⟩) m m) ∧ (∃ o, Ow w' w.heap.size (.slice (some ⟨w.heap.size, 0, none⟩) m m) o ∧ wal o = wal as_ + wal bs ∧ (∀ x ∈ o, x < 18446744073709551616) ∧ o.length = m) ∧ Ext w w' := by
  have la := ha.lim
  have lb' := hb.lim
  have wa := wal_lt as_ la
  have wb := wal_lt bs lb'
  obtain ⟨A, ca, rfl, hca⟩ := ha.shape
  obtain ⟨A2, cb, rfl, hcb⟩ := hb.shape
  obtain ⟨na, hna⟩ : ∃ na, as_.length = na := ⟨_, rfl⟩
  obtain ⟨nb, hnb⟩ : ∃ nb, bs.length = nb := ⟨_, rfl⟩
  have HNA := Lib.hid hna
  have HNB := Lib.hid hnb
  rw [hna] at ha hca hm wa ⊢
  rw [hnb] at hb hcb hm wb ⊢
  obtain ⟨i0, hi, hz0, hz1, hz2⟩ := info_parts info64
  obtain ⟨m1, hm1'⟩ : ∃ m1, max na nb = m1 := ⟨_, rfl⟩
  have hmi : (if (na : Int) < (nb : Int) then (nb : Int) else (na : Int)) = (m1 : Int) := by split <;> omega
  have hmi2 : (if na < nb then (nb : Int) else (na : Int)) = (m1 : Int) := by split <;> omega
  have hmi3 : max (na : Int) (nb : Int) = (m1 : Int) := by omega
  have hmi4 : (m1 : Int) + 1 = (m : Int) := by omega
  have hm1a : na < m := by omega
  have hm1b : nb < m := by omega
  have hfit : BB ^ na + BB ^ nb ≤ BB ^ m := by
    have h1 : BB ^ na ≤ BB ^ (m - 1) := Nat.pow_le_pow_right (by decide) (by omega)
    have h2 : BB ^ nb ≤ BB ^ (m - 1) := Nat.pow_le_pow_right (by decide) (by omega)
    have h3 : BB ^ m = BB ^ (m - 1) * BB := by rw [← Nat.pow_succ]; congr 1; omega
    rw [h3]
    unfold BB at *
    omega
  have HW : Hid (wal as_ + wal bs < BB ^ m) := by rw [Hid]; omega
  obtain ⟨B, hB⟩ : ∃ B, w.heap.size = B := ⟨_, rfl⟩
  clear wa wb hfit hna hnb hm
  rw [hB]
  have HBS := Lib.hid hB
  go_enter Tryd.func82, Tryd.ntmps82
  go_wp2_with (first
    | (at_make; refine wpList_make_full _ rfl _ _ 53 rfl w.heap.size 36 i0 (.int .u64 0) 1 Tryd.underlying53 hi hz0 hz1 _ _ _ _ m rfl rfl (by omega) (by omega) (by rw [hz2]; omega) (by unfold maxLen; omega) (Nat.le_refl _) ?_; intro w1 hown hgrow; have ho0 := Ow.zeros hown; rw [hB] at ho0; have hE0 : Ext w w1 := (Ext.refl w).grown hgrow (Nat.le_refl _) (fun _ h => by cases h); have ha1 := (ha.new (g := B) (by omega)).below hE0; have hb1 := (hb.new (g := B) (by omega)).below hE0; clear hown hgrow)
    | (refine wpList_copyW (o := ⟨some 15, _, _, _, _, _⟩) rfl (.tmp 13) (.tmp 14) rfl B 0 m m A na ca rfl rfl B m m (List.replicate m 0) ho0 as_ ha1 (by omega) (by omega) ?_; intro w2 hown2 hbut2)
    | fail)
  have hsp := wal_splice (List.replicate m 0) as_ 0 (by simp; rw [HNA.out]; omega) (fun j _ _ => lb_zeros m j)
  have hsl := splice_lt (List.replicate m 0) as_ 0 (fun x hx => by simp at hx; omega) la
  have hb2 := hb1.but hbut2
  refine (addTo_calls w2 B B m m 0 m m _ bs _ hown2 hsl (by omega) (Nat.le_refl _) (by omega) hb2 (by rw [HNB.out]; omega)).mono ?_
  rintro e w3 ⟨⟨o', cy, rfl, HA, hown3⟩, hB3⟩
  have hval := HA.val
  rw [hsp, wal_zeros, Nat.pow_zero, Nat.one_mul, Nat.one_mul, Nat.zero_add, Nat.zero_add] at hval
  have hcy : cy = 0 := by
    have h1 := HW.out
    rcases Nat.eq_zero_or_pos cy with h | h
    · exact h
    · have : cy = 1 := by have := HA.cy1; omega
      subst this
      omega
  rw [hcy, Nat.mul_zero, Nat.add_zero] at hval
  have HF : Hid (∃ o, Ow w3 B (.slice (some ⟨B, 0, none⟩) m m) o ∧ wal o = wal as_ + wal bs ∧ (∀ x ∈ o, x < 18446744073709551616) ∧ o.length = m) := ⟨o', hown3, hval, HA.lt, HA.len⟩
  have hE3 : Ext w w3 := (hE0.but hbut2 (by omega)).but hB3 (by omega)
  clear hval hown3 hown2 HA hB3 hbut2 hsp hsl ha1 hb1 hb2 hE0 ho0 hcy
  go_wp2
  go_ret
  exact ⟨rfl, HF.out, hE3⟩

/-- No more than n words. -/
theorem fit_calls (w : World) (A : Option Addr) (l c n k : Nat) (hl : l ≤ c) (hk : min n l = k) (hn : n ≤ 1000000) :
    Calls Tryd.prog 84 #[.slice A l c, .int .i64 (n : Nat)] w fun e w' => e = .returned (.slice A k c) ∧ w = w' := by
  have hki : (if (l : Int) < (n : Int) then (l : Int) else (n : Int)) = (k : Int) := by split <;> omega
  have hki2 : (if l < n then (l : Int) else (n : Int)) = (k : Int) := by split <;> omega
  have hki3 : min (n : Int) (l : Int) = (k : Int) := by omega
  have hkl : k ≤ c := by omega
  clear hk
  go_enter Tryd.func84, Tryd.ntmps84
  go_wp2
  go_ret
  exact ⟨rfl, rfl⟩
end Go.Proofs.YtkmejhkdmnjbeaaDoor
/- Rows of words multiplied, word by word. -/
namespace Go.Proofs.YtkmejhkdmnjbeaaDoor
open Go.RowKit
set_option linter.unusedVariables false
set_option maxHeartbeats 400000

theorem sq64 {x y : Nat} (hx : x < 18446744073709551616) (hy : y < 18446744073709551616) : x * y ≤ 340282366920938463426481119284349108225 := by
  calc x * y ≤ 18446744073709551615 * 18446744073709551615 := Nat.mul_le_mul (by omega) (by omega)
    _ = _ := by decide
theorem row_math (t z cr hi lo s1 c1 s2 c2 : Nat) (ht : t ≤ 340282366920938463426481119284349108225) (hz : z < 18446744073709551616) (hc : cr < 18446744073709551616)
    (h1 : t / 18446744073709551616 = hi) (h2 : t % 18446744073709551616 = lo) (h3 : (lo + z) % 18446744073709551616 = s1) (h4 : (lo + z) / 18446744073709551616 = c1)
    (h5 : (s1 + cr) % 18446744073709551616 = s2) (h6 : (s1 + cr) / 18446744073709551616 = c2) : z + t + cr = s2 + BB * (hi + c1 + c2) ∧ hi + c1 + c2 < 18446744073709551616 ∧ c1 ≤ 1 ∧ c2 ≤ 1 ∧ s1 < 18446744073709551616 ∧ s2 < 18446744073709551616 ∧ lo < 18446744073709551616 := by
  unfold BB
  have e1 : t = 18446744073709551616 * hi + lo := by omega
  have e2 : lo + z = 18446744073709551616 * c1 + s1 := by omega
  have e3 : s1 + cr = 18446744073709551616 * c2 + s2 := by omega
  have b1 : lo < 18446744073709551616 := by omega
  have b2 : s1 < 18446744073709551616 := by omega
  have b3 : s2 < 18446744073709551616 := by omega
  clear h1 h2 h3 h4 h5 h6
  refine ⟨by omega, by omega, by omega, by omega, b2, b3, b1⟩

/-- The first i words, times y, are added. -/
structure RwI (o0 : List Nat) (n off : Nat) (A : Nat) (i : Nat) (o : List Nat) (cy : Nat) : Prop where
  len : o.length = n
  lt : ∀ x ∈ o, x < 18446744073709551616
  cy1 : cy < 18446744073709551616
  val : wal o + BB ^ (off + i) * cy = A
  out : ∀ m, off + i ≤ m → lb o m = lb o0 m
theorem RwI.step {o0 : List Nat} {n off A i : Nat} {o : List Nat} {cy : Nat} (h : RwI o0 n off A i o cy) (hi : off + i < n) (t s d : Nat)
    (hs : lb o (off + i) + t + cy = s + BB * d) (hsb : s < 18446744073709551616) (hd : d < 18446744073709551616) : RwI o0 n off (A + BB ^ (off + i) * t) (i + 1) (o.set (off + i) s) d := by
  refine ⟨by simp [h.len], set_lt h.lt hsb, hd, ?_, fun m hm => ?_⟩
  · rw [← Nat.add_assoc, Nat.pow_succ]
    exact wadd_step _ _ _ _ _ _ _ _ _ (wal_set o (off + i) s (by rw [h.len]; exact hi)) h.val hs
  · rw [lb_set_other _ (by omega)]; exact h.out m (by omega)

set_option maxRecDepth 100000 in
set_option maxHeartbeats 4000000 in
theorem row_calls (w : World) (g base n c off zc : Nat) (o as_ : List Nat) (va : Value) (yv : Nat) (hyv : yv < 18446744073709551616) (hown : Ow w base (.slice (some ⟨g, 0, none⟩) n c) o) (ho : ∀ x ∈ o, x < 18446744073709551616)
    (na : Nat) (hna : as_.length = na) (hz : off + na + 1 ≤ n) (hzc : na + 1 ≤ zc) (hn : n ≤ 1000000) (ha : V g w va as_) (h0 : lb o (off + na) = 0) :
    Calls Tryd.prog 58 #[.slice (some ⟨g, off, none⟩) (na + 1 : Nat) zc, va, .int .u64 (yv : Nat)] w fun e w' => e = .returned (.tuple #[]) ∧ (∃ o', Ow w' base (.slice (some ⟨g, 0, none⟩) n c) o' ∧ wal o' = wal o + BB ^ off * (wal as_ * yv) ∧ (∀ x ∈ o', x < 18446744073709551616) ∧ ∀ m, off + na < m → lb o' m = lb o m) ∧ But g w w' := by
  have hlim := ha.lim
  obtain ⟨A, ca, rfl, ⟨hca, hma⟩, hx, hr⟩ := id ha
  have hcap := hown.caps
  have hgb := hown.block.2
  have HN := Lib.hid hna
  have H0 := Lib.hid h0
  have HS : Hid (RwI o n off (wal o + BB ^ off * (wal (as_.take 0) * yv)) 0 o 0) := ⟨hcap.1.symm, ho, by decide, by simp [wal], fun m _ => rfl⟩
  have HTK := Lib.hid (fun k => wal_take_succ as_ k)
  have HT2 : Hid (as_.take na = as_) := by rw [Hid, ← hna]; exact List.take_length
  rw [hna] at hca hma hr ⊢
  have hB0 := But.refl g w
  have hnai : ((na + 1 : Nat) : Int) = (na : Int) + 1 := by omega
  clear ha hna hcap ho h0
  go_enter Tryd.func58, Tryd.ntmps58
  go_wp2
  go_loopw [20, 6] (fun t s wr => ∃ (i : Nat) (o' : List Nat) (cy : Nat), i ≤ na ∧ t = .int .i64 (i : Nat) ∧ s = .int .u64 (cy : Nat) ∧ Hid (RwI o n off (wal o + BB ^ off * (wal (as_.take i) * yv)) i o' cy) ∧ Ow wr base (.slice (some ⟨g, 0, none⟩) n c) o' ∧ But g w wr) (fun t _ _ => na - (intOf t).toNat)
  case atStart => exact ⟨0, o, 0, Nat.zero_le _, rfl, rfl, HS, hown, hB0⟩
  case round =>
    clear HS hown hB0
    obtain ⟨i, o', cy, hi, rfl, rfl, HO, hown, hB⟩ := hrel
    by_cases hlt : i < na
    · obtain ⟨ad, rfl, hb, hne, hcell⟩ := hr (by omega)
      have hc0 := (hB.cell (p := ad.add i) (by rw [addr_add_block]; exact hb) (by rw [addr_add_block]; exact hne)).trans (hcell i hlt)
      have hy : lb as_ i < 18446744073709551616 := lb_lt_of (by decide) hx i
      have htk := HTK.out i (by rw [HN.out]; exact hlt)
      have hcz := hown.cell (j := off + i) (by omega)
      have hf := hown.frozen (off + i)
      have hx1 : lb o' (off + i) < 18446744073709551616 := lb_lt_of (by decide) HO.out.lt _
      have hcy := HO.out.cy1
      obtain ⟨x, hxx⟩ : ∃ x, lb as_ i = x := ⟨_, rfl⟩
      rw [hxx] at hc0 hy htk
      obtain ⟨z, hzz⟩ : ∃ z, lb o' (off + i) = z := ⟨_, rfl⟩
      rw [hzz] at hcz hx1
      obtain ⟨t, ht⟩ : ∃ t, x * yv = t := ⟨_, rfl⟩
      have ht1 : t ≤ 340282366920938463426481119284349108225 := by rw [← ht]; exact sq64 hy hyv
      obtain ⟨hi_, hhi⟩ : ∃ hi_, t / 18446744073709551616 = hi_ := ⟨_, rfl⟩
      obtain ⟨lo, hlo⟩ : ∃ lo, t % 18446744073709551616 = lo := ⟨_, rfl⟩
      obtain ⟨s1, hs1⟩ : ∃ s1, (lo + z) % 18446744073709551616 = s1 := ⟨_, rfl⟩
      obtain ⟨c1, hc1⟩ : ∃ c1, (lo + z) / 18446744073709551616 = c1 := ⟨_, rfl⟩
      obtain ⟨s2, hs2⟩ : ∃ s2, (s1 + cy) % 18446744073709551616 = s2 := ⟨_, rfl⟩
      obtain ⟨c2, hc2⟩ : ∃ c2, (s1 + cy) / 18446744073709551616 = c2 := ⟨_, rfl⟩
      obtain ⟨hm, hd1, hk1, hk2, hb1, hb2, hlo1⟩ := row_math t z cy hi_ lo s1 c1 s2 c2 ht1 hx1 hcy hhi hlo hs1 hc1 hs2 hc2
      have hst := HO.out.step (by omega) t s2 (hi_ + c1 + c2) (by rw [hzz]; exact hm) hb2 hd1
      rw [Nat.add_assoc (wal o), Nat.pow_add, Nat.mul_assoc, ← Nat.mul_add, ← ht, ← Nat.mul_assoc, ← Nat.add_mul, ← htk] at hst
      have HST := Lib.hid hst
      have hown2 := hown.set_ (off + i) s2
      have hB2 := hB.setCell (off + i) (.int .u64 (s2 : Nat))
      have hMul : Hid (∀ W, Calls Tryd.prog 81 #[.int .u64 (x : Nat), .int .u64 (yv : Nat)] W fun e w' => e = .returned (.tuple #[.int .u64 (hi_ : Nat), .int .u64 (lo : Nat)]) ∧ w' = W) := by
        intro W
        have := mul64_calls x yv hy hyv W
        rw [ht, hhi, hlo] at this
        exact this
      have hadd1 : ∀ w, (callFunc 47 #[.int .u64 (lo : Nat), .int .u64 (z : Nat), .int .u64 0]).run Tryd.prog w = .ok (.value (.tuple #[.int .u64 (s1 : Nat), .int .u64 (c1 : Nat)])) w := run_addc lo z 0 s1 c1 (Nat.zero_le _) hs1 hc1
      have hadd2 : ∀ w, (callFunc 47 #[.int .u64 (s1 : Nat), .int .u64 (cy : Nat), .int .u64 0]).run Tryd.prog w = .ok (.value (.tuple #[.int .u64 (s2 : Nat), .int .u64 (c2 : Nat)])) w := run_addc s1 cy 0 s2 c2 (Nat.zero_le _) hs2 hc2
      have hw1 : IntKind.u64.wrap ((hi_ : Int) + (c1 : Int)) = (hi_ : Int) + (c1 : Int) := by rw [IntKind.wrap_u64]; omega
      have hw2 : IntKind.u64.wrap ((hi_ : Int) + (c1 : Int) + (c2 : Int)) = (hi_ : Int) + (c1 : Int) + (c2 : Int) := by rw [IntKind.wrap_u64]; omega
      obtain ⟨d, hd⟩ : ∃ d, hi_ + c1 + c2 = d := ⟨_, rfl⟩
      have hdi : (hi_ : Int) + (c1 : Int) + (c2 : Int) = (d : Int) := by omega
      rw [hd] at HST hd1
      clear hst htk hxx hzz ht hhi hlo hs1 hc1 hs2 hc2 hm hown hB HO hd ht1
      go_wp2_with (fail)
      refine (hMul.out _).mono ?_
      rintro e w' ⟨rfl, rfl⟩
      clear hMul
      go_wp2
      go_roundw
      case rel => exact ⟨i + 1, _, d, by omega, by go_num, rfl, HST, hown2, hB2⟩
      case measure => simp [intOf]; omega
    · obtain rfl : i = na := by omega
      rw [HT2.out] at HO
      have hcz := hown.cell (j := off + i) (by omega)
      have hf := hown.frozen (off + i)
      have hown2 := hown.set_ (off + i) cy
      have hB2 := hB.setCell (off + i) (.int .u64 (cy : Nat))
      have hl0 : lb o' (off + i) = 0 := by rw [HO.out.out _ (Nat.le_refl _)]; exact H0.out
      have hws := wal_set o' (off + i) cy (by rw [HO.out.len]; omega)
      rw [hl0, Nat.mul_zero, Nat.add_zero, HO.out.val] at hws
      have hcz' : (Value.int .u64 (lb o' (off + i) : Nat)) = .int .u64 0 := by rw [hl0]; rfl
      rw [hcz'] at hcz
      have HF : Hid (∃ o2, Ow (wr.setCell ⟨g, off + i, none⟩ (.int .u64 (cy : Nat))) base (.slice (some ⟨g, 0, none⟩) n c) o2 ∧ wal o2 = wal o + BB ^ off * (wal as_ * yv) ∧ (∀ x ∈ o2, x < 18446744073709551616) ∧ ∀ m, off + i < m → lb o2 m = lb o m) :=
        ⟨_, hown2, hws, set_lt HO.out.lt HO.out.cy1, fun m hm => by rw [lb_set_other _ (by omega)]; exact HO.out.out m (by omega)⟩
      have hii : (i : Int) < ((i + 1 : Nat) : Int) := by omega
      have hii2 : (i : Int) < (i : Int) + 1 := by omega
      clear hl0 hws hcz' hown hown2 HO hB hr
      go_wp2
      go_end0
      exact ⟨rfl, HF.out, hB2⟩

/-- The product of the first i words is there, and nothing behind it. -/
structure RsI (as_ bs : List Nat) (n : Nat) (i : Nat) (o : List Nat) : Prop where
  len : o.length = n
  lt : ∀ x ∈ o, x < 18446744073709551616
  val : wal o = wal as_ * wal (bs.take i)
  out : ∀ m, i + as_.length ≤ m → lb o m = 0

/-- What a way to multiply answers: a row of its own with as many words as both. -/
def Prod (w w' : World) (x : Ending) (na nb : Nat) (as_ bs : List Nat) : Prop :=
  ∃ g c o, x = .returned (.slice (some ⟨g, 0, none⟩) (na + nb) c) ∧ Ow w' w.heap.size (.slice (some ⟨g, 0, none⟩) (na + nb) c) o ∧ wal o = wal as_ * wal bs ∧ ∀ x ∈ o, x < 18446744073709551616

set_option maxRecDepth 100000 in
set_option maxHeartbeats 4000000 in
theorem rows_calls (w : World) (q1 q2 : Nat) (va vb : Value) (as_ bs : List Nat) (ha : V q1 w va as_) (hb : V q2 w vb bs) (na nb : Nat) (hna : as_.length = na) (hnb : bs.length = nb) (hm : na + nb ≤ 100000) :
    Calls Tryd.prog 38 #[va, vb] w fun e w' => Prod w w' e na nb as_ bs ∧ Ext w w' := by
  have hxb := hb.lim
  obtain ⟨A, ca, rfl, hca⟩ := ha.shape
  obtain ⟨A2, cb, rfl, ⟨hcb, hmb⟩, hx2, hr⟩ := id hb
  have HNA := Lib.hid hna
  have HNB := Lib.hid hnb
  rw [hna] at ha hca ⊢
  rw [hnb] at hb hcb hr hmb ⊢
  obtain ⟨i0, hi, hz0, hz1, hz2⟩ := info_parts info64
  obtain ⟨n, hn⟩ : ∃ n, na + nb = n := ⟨_, rfl⟩
  have hni : (na : Int) + (nb : Int) = (n : Int) := by omega
  obtain ⟨B, hB⟩ : ∃ B, w.heap.size = B := ⟨_, rfl⟩
  have HBS := Lib.hid hB
  have HTK := Lib.hid (fun k => wal_take_succ bs k)
  have HT2 : Hid (bs.take nb = bs) := by rw [Hid, ← hnb]; exact List.take_length
  unfold Prod
  rw [hB, hn]
  clear hna hnb
  go_enter Tryd.func38, Tryd.ntmps38
  go_wp2_with (at_make; refine wpList_make_full _ rfl _ _ 53 rfl w.heap.size 36 i0 (.int .u64 0) 1 Tryd.underlying53 hi hz0 hz1 _ _ _ _ n rfl rfl (by omega) (by omega) (by rw [hz2]; omega) (by unfold maxLen; omega) (Nat.le_refl _) ?_; intro w1 hown hgrow)
  have ho0 := Ow.zeros hown
  have hE0 : Ext w w1 := (Ext.refl w).grown hgrow (Nat.le_refl _) (fun _ h => by cases h)
  rw [hB] at ho0
  have ha1 := (ha.new (g := B) (by omega)).below hE0
  have hne : ∀ ad, A2 = some ad → 0 < nb → ad.block ≠ B := fun ad e h0 => by
    obtain ⟨ad', e', hb', _⟩ := hr h0
    rw [e'] at e
    injection e with e
    subst e; omega
  clear hown hgrow hi hz0 hz1 hz2 i0 ha hb
  go_wp2
  go_loopw [16] (fun t wr => ∃ (i : Nat) (o : List Nat), i ≤ nb ∧ t = .int .i64 (i : Nat) ∧ Hid (RsI as_ bs n i o) ∧ Ow wr B (.slice (some ⟨B, 0, none⟩) n n) o ∧ Ext w wr ∧ V B wr (.slice A na ca) as_) (fun t _ => nb - (intOf t).toNat)
  case atStart => exact ⟨0, _, Nat.zero_le _, rfl, ⟨by simp, fun x hx => by simp at hx; omega, by simp [wal_zeros, wal], fun m _ => lb_zeros _ _⟩, ho0, hE0, ha1⟩
  case round =>
    clear ho0 hE0 ha1
    obtain ⟨i, o, hib, rfl, HO, hown, hE, hav⟩ := hrel
    by_cases hlt : i < nb
    · obtain ⟨ad, rfl, hbk, hnq, hcell⟩ := hr (by omega)
      have hc0 := (hE.cell (p := ad.add i) (by rw [addr_add_block]; exact hbk)).trans (hcell i hlt)
      have hy : lb bs i < 18446744073709551616 := lb_lt_of (by decide) hx2 i
      have htk := HTK.out i (by rw [HNB.out]; exact hlt)
      obtain ⟨y, hyy⟩ : ∃ y, lb bs i = y := ⟨_, rfl⟩
      rw [hyy] at hc0 hy htk
      have hRow := Lib.hid (row_calls wr B B n n i (n - i) o as_ _ y hy hown HO.out.lt na HNA.out (by omega) (by omega) (by omega) hav (HO.out.out _ (by rw [HNA.out]; exact Nat.le_refl _)))
      have hi1 : (i : Int) + (na : Int) + 1 ≤ (n : Int) := by omega
      have hi2 : (i : Int) ≤ (i : Int) + (na : Int) + 1 := by omega
      have hi3 : i ≤ n := by omega
      have hi4 : i + na + 1 - i = na + 1 := by omega
      have hi5 : ((i : Int) + (na : Int) + 1).toNat = i + na + 1 := by omega
      clear hyy
      go_wp2_with (fail)
      refine hRow.out.mono ?_
      rintro e w' ⟨rfl, ⟨o2, hown2, hv2, hl2, hout2⟩, hB2⟩
      have hE2 := hE.but hB2 (by omega)
      have hav2 := hav.but hB2
      have HST : Hid (RsI as_ bs n (i + 1) o2) := by
        refine ⟨hown2.caps.1.symm, hl2, ?_, fun m hm => ?_⟩
        · rw [htk, Nat.mul_add, ← HO.out.val, hv2, Nat.mul_left_comm]
        · rw [HNA.out] at hm
          rw [hout2 m (by omega)]; exact HO.out.out m (by rw [HNA.out]; omega)
      clear hRow hv2 hl2 hout2 hB2 hown HO hE hav htk
      go_wp2
      go_roundw
      case rel => exact ⟨i + 1, _, by omega, by go_num, HST, hown2, hE2, hav2⟩
      case measure => simp [intOf]; omega
    · obtain rfl : i = nb := by omega
      have HF : Hid (∃ g c o, Ending.returned (.slice (some ⟨B, 0, none⟩) n n) = .returned (.slice (some ⟨g, 0, none⟩) n c) ∧ Ow wr B (.slice (some ⟨g, 0, none⟩) n c) o ∧ wal o = wal as_ * wal bs ∧ ∀ x ∈ o, x < 18446744073709551616) :=
        ⟨B, n, o, rfl, hown, by rw [HO.out.val, HT2.out], HO.out.lt⟩
      clear hown HO hav
      go_wp2
      go_ret
      exact ⟨HF.out, hE⟩
end Go.Proofs.YtkmejhkdmnjbeaaDoor
