/- The document's greatest powers. -/
import Derived.Test.YtbdmncpibnligaaGreatDoorBbd
import Derived.Sort.LoopGhostIn
import Derived.Deep.OwnRows

namespace Go.Proofs.YtbdmncpibnligaaGreatDoor
open Go.RowKit 
set_option linter.unusedVariables false
set_option linter.unusedSimpArgs false
set_option maxRecDepth 100000
set_option maxHeartbeats 4000000
theorem none_down {a k : Nat} (h : ∀ j, k < j → ¬ Rt.isP a j) (hk : ¬ Rt.isP a k) : ∀ j, k - 1 < j → ¬ Rt.isP a j := fun j hj => by
  rcases Nat.lt_or_ge k j with h1 | h1
  · exact h j h1
  · obtain rfl : j = k := by omega
    exact hk
theorem isz_of {a : Nat} (h : blen a ≤ 3000) : ∀ z : Int, ∀ k : Nat, z = (k : Int) → k < blen a → blen a + 3 * k ≤ 12000 := fun _ k _ hk => by omega
theorem rpower_calls (w : World) (va : Value) (a : Nat) (ha : Un w va a) (la : Sn a 300) (hb3 : blen a ≤ 3000) :
    Calls Tryz.prog 19 #[va] w fun e w' => ∃ (u : Value) (b k : Nat), e = .returned (.tuple #[u, .int .i64 ((k : Nat) : Int)]) ∧ Un w' u b ∧ (a ≤ 1 ∧ b = a ∧ k = 1 ∨ 1 < a ∧ b ^ k = a ∧ Rt.Prim b ∧ 1 ≤ k) ∧ Pl.Ex w w' := by
  refine Pl.calls_by (n := 22) (vs := [va]) Tryz.func19 rfl (by kernel_rfl) (by simp) ?_
  have hpos : a ≠ 0 → 0 < blen a := fun h => blen_pos h
  repeat refine Pl.V_seq ?_
  refine Pl.V_region (by kernel_rfl) ?_
  refine Pl.qA_go trivial rfl ?_
  refine Pl.pA_end ?_
  repeat refine Pl.V_seq ?_
  refine Pl.V_region (by kernel_rfl) ?_
  refine Pl.qA_go trivial rfl ?_
  by_cases c1 : a ≤ 1
  · refine Pl.pA_call rfl rfl rfl rfl rfl (fun u X => Pl.enters Tryz.func52 (by kernel_rfl) rfl u X) ?_
    refine Calls.mono (one_calls _ _ a ha) ?_
    rintro e w1 ⟨r0, rfl, hr0, hE1⟩
    obtain rfl : r0 = true := by exact hr0.2 c1
    have sz1 := Pl.Ex.size hE1
    refine ⟨_, rfl, trivial, ?_⟩
    refine Pl.pA_end ?_
    repeat refine Pl.V_seq ?_
    refine Pl.V_true rfl ?_
    repeat refine Pl.V_seq ?_
    refine Pl.V_region (by kernel_rfl) ?_
    refine Pl.qA_go trivial rfl ?_
    refine Pl.pA_end ?_
    repeat refine Pl.V_seq ?_
    exact Pl.post_ret2 rfl rfl rfl  (⟨_, a, 1, rfl, (Un.below ha hE1), .inl ⟨c1, rfl, rfl⟩, hE1⟩)
  · refine Pl.pA_call rfl rfl rfl rfl rfl (fun u X => Pl.enters Tryz.func52 (by kernel_rfl) rfl u X) ?_
    refine Calls.mono (one_calls _ _ a ha) ?_
    rintro e w1 ⟨r0, rfl, hr0, hE1⟩
    obtain rfl : r0 = false := by exact Bool.eq_false_iff.2 fun h => c1 (hr0.1 h)
    have sz1 := Pl.Ex.size hE1
    refine ⟨_, rfl, trivial, ?_⟩
    refine Pl.pA_end ?_
    repeat refine Pl.V_seq ?_
    refine Pl.V_false rfl ?_
    repeat refine Pl.V_seq ?_
    refine Pl.V_skip ?_
    repeat refine Pl.V_seq ?_
    refine Pl.V_region (by kernel_rfl) ?_
    refine Pl.qA_go trivial rfl ?_
    refine Pl.pA_call rfl rfl rfl rfl rfl (fun u X => Pl.enters Tryz.func30 (by kernel_rfl) rfl u X) ?_
    refine Calls.mono (rbits_B _ _ a (Un.below ha hE1) (Sn.le la (by decide)) _ rfl) ?_
    rintro e w2 ⟨rfl, hE2⟩
    have sz2 := Pl.Ex.size hE2
    refine ⟨_, rfl, trivial, ?_⟩
    refine Pl.qA_go trivial rfl ?_
    refine Pl.pA_end ?_
    repeat refine Pl.V_seq ?_
    refine Pl.V_block ?_
    repeat refine Pl.V_seq ?_
    refine Pl.V_sub [(0, va), (4, .int .i64 ((blen a : Nat) : Int))] (Pl.subl_cons rfl (Pl.subl_cons rfl Pl.subl_nil)) ?_
    repeat refine Pl.V_seq ?_
    refine Pl.V_loop (fun kq l' w' => ∃ k, k = kq ∧ Pl.Ex w2 w' ∧ (1 ≤ k) ∧ (k ≤ blen a) ∧ (∀ j, k < j → ¬ Rt.isP a j) ∧ l' = [(0, va), (4, .int .i64 ((k : Nat) : Int))]) _ ⟨(blen a), rfl, Pl.Ex.refl _, (hpos (by omega)), (Nat.le_refl _), (fun j hj => kr_two (by omega) (Nat.le_of_lt hj)), rfl⟩ ?_
    rintro kq _ w3 ⟨k, hk3, hE3, hk1, hkb, hno, rfl⟩
    have sz3 := Pl.Ex.size hE3
    repeat refine Pl.V_seq ?_
    refine Pl.V_region (by kernel_rfl) ?_
    refine Pl.qA_go trivial rfl ?_
    by_cases c2 : k > 1
    · refine Pl.qA_b (v := .bool true) (fun X => Pl.r_gtr (decide_eq_true (by omega)) X) trivial rfl rfl rfl rfl rfl rfl ?_
      refine Pl.pA_end ?_
      repeat refine Pl.V_seq ?_
      refine Pl.V_true rfl ?_
      repeat refine Pl.V_seq ?_
      refine Pl.V_skip ?_
      repeat refine Pl.V_seq ?_
      refine Pl.V_block ?_
      repeat refine Pl.V_seq ?_
      refine Pl.V_region (by kernel_rfl) ?_
      refine Pl.qA_go trivial rfl ?_
      by_cases c3 : Rt.isP a k
      · refine Pl.pA_call rfl rfl rfl rfl rfl (fun u X => Pl.enters Tryz.func22 (by kernel_rfl) rfl u X) ?_
        refine Calls.mono (ris_calls _ _ a (Un.below ha (Pl.Ex.trans hE1 (Pl.Ex.trans hE2 hE3))) la ((k : Nat) : Int) (isz_of hb3 _)) ?_
        rintro e w4 ⟨r4, rfl, hr4, hE4⟩
        obtain rfl : r4 = true := by exact hr4.2 ⟨by omega, c3⟩
        have sz4 := Pl.Ex.size hE4
        refine ⟨_, rfl, trivial, ?_⟩
        refine Pl.pA_end ?_
        repeat refine Pl.V_seq ?_
        refine Pl.V_true rfl ?_
        repeat refine Pl.V_seq ?_
        refine Pl.V_region (by kernel_rfl) ?_
        refine Pl.qA_go trivial rfl ?_
        refine Pl.pA_call rfl rfl rfl rfl rfl (fun u X => Pl.enters Tryz.func34 (by kernel_rfl) rfl u X) ?_
        refine Calls.mono (cut_calls _ _ a (Un.below ha (Pl.Ex.trans hE1 (Pl.Ex.trans hE2 (Pl.Ex.trans hE3 hE4)))) la k (by omega)) ?_
        rintro e w5 ⟨v5, rfl, hv5, hE5⟩
        have sz5 := Pl.Ex.size hE5
        refine ⟨_, rfl, trivial, ?_⟩
        refine Pl.qA_go trivial rfl ?_
        refine Pl.pA_end ?_
        repeat refine Pl.V_seq ?_
        refine Pl.V_ret fun aQ hQ => ?_
        repeat first | refine Pl.ret_then ?_ | refine Pl.Ks_ret ?_ | refine Pl.ret_block ?_ | refine Pl.ret_goto ?_
        exact Pl.at_ret2 hQ rfl rfl rfl  (⟨_, Rt.kr a k, k, rfl, hv5, .inr ⟨by omega, c3, prim_top hk1 c3 hno, hk1⟩, (Pl.Ex.trans hE1 (Pl.Ex.trans hE2 (Pl.Ex.trans hE3 (Pl.Ex.trans hE4 hE5))))⟩)
      · refine Pl.pA_call rfl rfl rfl rfl rfl (fun u X => Pl.enters Tryz.func22 (by kernel_rfl) rfl u X) ?_
        refine Calls.mono (ris_calls _ _ a (Un.below ha (Pl.Ex.trans hE1 (Pl.Ex.trans hE2 hE3))) la ((k : Nat) : Int) (isz_of hb3 _)) ?_
        rintro e w4 ⟨r4, rfl, hr4, hE4⟩
        obtain rfl : r4 = false := by exact Bool.eq_false_iff.2 fun h => c3 (hr4.1 h).2
        have sz4 := Pl.Ex.size hE4
        refine ⟨_, rfl, trivial, ?_⟩
        refine Pl.pA_end ?_
        repeat refine Pl.V_seq ?_
        refine Pl.V_false rfl ?_
        repeat refine Pl.V_seq ?_
        refine Pl.V_skip ?_
        refine Pl.V_endblock ?_
        repeat refine Pl.V_seq ?_
        refine Pl.V_region (by kernel_rfl) ?_
        refine Pl.qA_go trivial rfl ?_
        refine Pl.qA_b (v := .int .i64 (((k - 1) : Nat) : Int)) (fun X => nb_sub_i64 (a := k) (b := 1) (by omega) X) trivial rfl rfl rfl rfl rfl rfl ?_
        refine Pl.qA_go trivial rfl ?_
        refine Pl.pA_end ?_
        repeat refine Pl.V_seq ?_
        refine Pl.V_again (k' := (k - 1)) [(0, va), (4, .int .i64 (((k - 1) : Nat) : Int))] (Pl.subl_cons rfl (Pl.subl_cons rfl Pl.subl_nil)) (by omega) ⟨(k - 1), rfl, (Pl.Ex.trans hE3 hE4), (by omega), (by omega), (none_down hno c3), rfl⟩
    · refine Pl.qA_b (v := .bool false) (fun X => Pl.r_gtr (decide_eq_false (by omega)) X) trivial rfl rfl rfl rfl rfl rfl ?_
      refine Pl.pA_end ?_
      repeat refine Pl.V_seq ?_
      refine Pl.V_false rfl ?_
      repeat refine Pl.V_seq ?_
      refine Pl.V_exit ?_
      repeat refine Pl.V_seq ?_
      refine Pl.V_region (by kernel_rfl) ?_
      refine Pl.qA_go trivial rfl ?_
      refine Pl.pA_end ?_
      repeat refine Pl.V_seq ?_
      exact Pl.post_ret2 rfl rfl rfl  (⟨_, a, 1, rfl, (Un.below ha (Pl.Ex.trans hE1 (Pl.Ex.trans hE2 hE3))), .inr ⟨by omega, Nat.pow_one a, prim_self (fun j hj => hno j (by omega)), (by decide)⟩, (Pl.Ex.trans hE1 (Pl.Ex.trans hE2 hE3))⟩)
theorem lpower_calls (w : World) (va : Value) (a : Nat) (ha : Un w va a) (la : Sn a 300) (k : Nat) (hk : k ≤ 1000) :
    Calls Tryz.prog 24 #[va, .int .i64 ((k : Nat) : Int)] w fun e w' => ∃ (u : Value) (b : Bool), e = .returned (.tuple #[u, .bool b]) ∧ (b = true ∧ blen a * k ≤ 6400 ∧ Un w' u (a ^ k) ∨ b = false ∧ 6400 < blen a * k) ∧ Pl.Ex w w' := by
  refine Pl.calls_by (n := 14) (vs := [va, .int .i64 ((k : Nat) : Int)]) Tryz.func24 rfl (by kernel_rfl) (by simp) ?_
  have hba := la.blen
  have hmb : blen a * k ≤ 9600 * 1000 := Nat.mul_le_mul hba hk
  repeat refine Pl.V_seq ?_
  refine Pl.V_region (by kernel_rfl) ?_
  refine Pl.qA_go trivial rfl ?_
  refine Pl.pA_end ?_
  repeat refine Pl.V_seq ?_
  refine Pl.V_region (by kernel_rfl) ?_
  refine Pl.qA_go trivial rfl ?_
  refine Pl.pA_call rfl rfl rfl rfl rfl (fun u X => Pl.enters Tryz.func30 (by kernel_rfl) rfl u X) ?_
  refine Calls.mono (rbits_B _ _ a ha (Sn.le la (by decide)) _ rfl) ?_
  rintro e w1 ⟨rfl, hE1⟩
  have sz1 := Pl.Ex.size hE1
  refine ⟨_, rfl, trivial, ?_⟩
  refine Pl.qA_go trivial rfl ?_
  refine Pl.qA_b (v := .int .i64 (((blen a * k) : Nat) : Int)) (fun X => nb_mul_i64 (a := blen a) (b := k) (by omega) X) trivial rfl rfl rfl rfl rfl rfl ?_
  by_cases c1 : (blen a * k) > 6400
  · refine Pl.qA_b (v := .bool true) (fun X => Pl.r_gtr (decide_eq_true (by omega)) X) trivial rfl rfl rfl rfl rfl rfl ?_
    refine Pl.pA_end ?_
    repeat refine Pl.V_seq ?_
    refine Pl.V_true rfl ?_
    repeat refine Pl.V_seq ?_
    refine Pl.V_region (by kernel_rfl) ?_
    refine Pl.qA_go trivial rfl ?_
    refine Pl.pA_end ?_
    repeat refine Pl.V_seq ?_
    exact Pl.post_ret2 rfl rfl rfl  (⟨_, _, rfl, .inr ⟨rfl, by omega⟩, hE1⟩)
  · refine Pl.qA_b (v := .bool false) (fun X => Pl.r_gtr (decide_eq_false (by omega)) X) trivial rfl rfl rfl rfl rfl rfl ?_
    refine Pl.pA_end ?_
    repeat refine Pl.V_seq ?_
    refine Pl.V_false rfl ?_
    repeat refine Pl.V_seq ?_
    refine Pl.V_skip ?_
    repeat refine Pl.V_seq ?_
    refine Pl.V_region (by kernel_rfl) ?_
    refine Pl.qA_go trivial rfl ?_
    refine Pl.pA_call rfl rfl rfl rfl rfl (fun u X => Pl.enters Tryz.func31 (by kernel_rfl) rfl u X) ?_
    refine Calls.mono (rpowM' _ _ a k (Un.below ha hE1) (blen a) (lt_pow_blen a) (by omega) (by have := c1; omega) (by omega)) ?_
    rintro e w2 ⟨v2, rfl, hv2, hE2⟩
    have sz2 := Pl.Ex.size hE2
    refine ⟨_, rfl, trivial, ?_⟩
    refine Pl.qA_go trivial rfl ?_
    refine Pl.pA_end ?_
    repeat refine Pl.V_seq ?_
    exact Pl.post_ret2 rfl rfl rfl  (⟨_, _, rfl, .inl ⟨rfl, by omega, hv2⟩, (Pl.Ex.trans hE1 hE2)⟩)
end Go.Proofs.YtbdmncpibnligaaGreatDoor
/- Loops over iterators; the sieve of primes. -/
namespace Go.Proofs.YtbdmncpibnligaaGreatDoor
open Go.RowKit
set_option linter.unusedVariables false
set_option linter.unusedSimpArgs false
set_option maxRecDepth 100000
set_option maxHeartbeats 4000000
/-- A call of yield with these arguments. -/
def YW (lp : Nat) (args : List Value) (X : World) (R : Ending → World → Prop) : Prop :=
  ∃ rec : Loop, X.heap[lp]? = some (.loop rec) ∧ args.length = rec.params.size ∧ RoundIn Fence.wide 0 Tryz.prog lp rec.fn ((rec.params.zip args.toArray).foldl (fun tmps (t, a) => tmps.setIfInBounds t a) rec.tmps) rec.assign rec.body X R
theorem YW.of {lp fn df : Nat} {ps : Array Tmp} {vs : List Value} {X : World} {R : Ending → World → Prop} {rec : Loop} {tmps : Array Value} {ac bd : Code} (hrec : rec = { state := .ready, pending := none, fn := fn, tmps := tmps, params := ps, assign := ac, body := bd, defers := df })
    (hl : X.heap[lp]? = some (.loop rec)) (hs : vs.length = ps.size) (h : RoundIn Fence.wide 0 Tryz.prog lp fn ((ps.zip vs.toArray).foldl (fun tmps (t, a) => tmps.setIfInBounds t a) tmps) ac bd X R) : YW lp vs X R := by
  subst hrec
  exact ⟨_, hl, hs, h⟩
theorem Pl.post_ret0in {n : Nat} {l : List (Nat × Value)} {w : World} {fn : Func} {R : Ending → World → Prop} {id id2 : Nat} {cs cs1 cs2 cs3 : List Code} {N : Act → World → Prop} (hr : fn.results = #[]) (h : R (.returned (.tuple #[])) w) :
    Pl.V Tryz.prog (Exit.inBlock id2 (Pl.Ks Tryz.prog (Exit.then N (Pl.Ks Tryz.prog (Exit.inBlock id (Pl.Ks Tryz.prog (bodyPost Tryz.prog fn R) cs)) cs1)) cs2)) n [] (.ret :: cs3) l w := fun a ha => wp_ret (by
  refine Pl.Ks_ret (cs := cs3) ?_
  show Pl.Ks Tryz.prog (Exit.then N (Pl.Ks Tryz.prog (Exit.inBlock id (Pl.Ks Tryz.prog (bodyPost Tryz.prog fn R) cs)) cs1)) cs2 .ret a w
  refine Pl.Ks_ret ?_
  show Pl.Ks Tryz.prog (Exit.inBlock id (Pl.Ks Tryz.prog (bodyPost Tryz.prog fn R) cs)) cs1 .ret a w
  refine Pl.Ks_ret ?_
  show Pl.Ks Tryz.prog (bodyPost Tryz.prog fn R) cs .ret a w
  refine Pl.Ks_ret ⟨ha.defers, .tuple #[], ?_, h⟩
  unfold results
  rw [hr]
  simp)
theorem Xs.putObj (X : World) (lp : Nat) (o' : Obj) : Pl.Xs [lp] X (X.putObj lp o') :=
  ⟨rfl, rfl, rfl, by simp, fun k hk hn => World.putObj_heap_other (fun e => hn (by simp [e]))⟩
theorem Xs.obj {Bs : List Nat} {w w' : World} {k : Nat} {o : Obj} (h : Pl.Xs Bs w w') (ho : w.heap[k]? = some o) (hn : k ∉ Bs) : w'.heap[k]? = some o := (h.block k (Array.getElem?_eq_some_iff.1 ho).1 hn).trans ho
theorem Ex.xsl {w X Y : World} {Cs : List Nat} (h : Pl.Ex w X) (hX : Pl.Xs Cs X Y) (hC : ∀ k ∈ Cs, w.heap.size ≤ k) : Pl.Ex w Y :=
  ⟨hX.os.trans h.os, hX.tape.trans h.tape, hX.output.trans h.output, Nat.le_trans h.size hX.size, fun k hk => (hX.block k (Nat.lt_of_lt_of_le hk h.size) fun hc => by have := hC k hc; omega).trans (h.block k hk)⟩
/-- What a loop over an iterator leaves standing. -/
structure Lq (w : World) (D : Nat) (rec : Loop) (X : World) : Prop where
  loop : X.heap[D + 1]? = some (.loop rec)
  dfr : X.heap[D]? = some (.deferred (some []))
  ext : Pl.Ex w X
theorem Lq.xs {w X Y : World} {D : Nat} {rec : Loop} (h : Lq w D rec X) {Cs : List Nat} (hX : Pl.Xs Cs X Y) (hC : ∀ k ∈ Cs, w.heap.size ≤ k ∧ k ≠ D ∧ k ≠ D + 1) : Lq w D rec Y :=
  ⟨Xs.obj hX h.loop fun hc => (hC _ hc).2.2 rfl, Xs.obj hX h.dfr fun hc => (hC _ hc).2.1 rfl, Ex.xsl h.ext hX fun k hk => (hC k hk).1⟩
theorem Lq.ex {w X Y : World} {D : Nat} {rec : Loop} (h : Lq w D rec X) (k : Pl.Ex X Y) : Lq w D rec Y := h.xs (Pl.Xs.ex (Bs := []) k) (by simp)
theorem Lq.lt {w X : World} {D : Nat} {rec : Loop} (h : Lq w D rec X) : D + 1 < X.heap.size := (Array.getElem?_eq_some_iff.1 h.loop).1
theorem Lq.put {w X : World} {D : Nat} {rec : Loop} (h : Lq w D rec X) (hD : w.heap.size ≤ D) (rec' : Loop) : Lq w D rec' (X.putObj (D + 1) (.loop rec')) :=
  ⟨World.putObj_heap_same h.lt, Xs.obj (Xs.putObj X (D + 1) _) h.dfr (by simp), Ex.xsl h.ext (Xs.putObj X (D + 1) _) (by simp; omega)⟩
theorem Lq.fin {P : Program} {w X : World} {D : Nat} {rec : Loop} (h : Lq w D { rec with state := .busy } X) (hD : w.heap.size ≤ D) (hs : rec.state = .ready) (hp : rec.pending = none) :
    ∃ v X', (Instr.endRound (D + 1) none).run P X = .ok v X' ∧ v = .bool true ∧ Lq w D rec X' ∧ Pl.Xs [D + 1] X X' := by
  refine ⟨_, _, run_endRound none h.loop, rfl, ?_⟩
  have e : ({ { rec with state := LoopState.busy } with state := if (none : Option Code).isNone then LoopState.ready else LoopState.done, pending := none } : Loop) = rec := by
    cases rec; simp at hs hp; subst hs hp; rfl
  rw [e]
  exact ⟨h.put hD rec, Xs.putObj _ _ _⟩
theorem Lq.finBy {P : Program} {w X : World} {D : Nat} {rec : Loop} (h : Lq w D { rec with state := .busy } X) (hD : w.heap.size ≤ D) (c : Code) :
    ∃ v X', (Instr.endRound (D + 1) (some c)).run P X = .ok v X' ∧ v = .bool false ∧ Lq w D { rec with state := .done, pending := some c } X' ∧ Pl.Xs [D + 1] X X' :=
  ⟨_, _, run_endRound (some c) h.loop, rfl, h.put hD { rec with state := .done, pending := some c }, Xs.putObj _ _ _⟩
section
variable {P : Program} {ro : Option Nat}
theorem Pl.KsI_out {Q : Exit → Act → World → Prop} : ∀ {cs : List Code} {a : Act} {w : World}, Pl.KsI P ro Q cs .outgrown a w → Q .outgrown a w
  | [], _, _, h => h
  | _ :: cs, _, _, h => Pl.KsI_out (cs := cs) h
end
section
variable {P : Program} {Q : Exit → Act → World → Prop} {ro : Option Nat} {n : Nat} {ds : List Deferred} {cs : List Code} {l : List (Nat × Value)} {w : World}
theorem Pl.VI_loop {c : Code} (I : Nat → List (Nat × Value) → World → Prop) (k : Nat) (h0 : I k l w)
    (hs : ∀ k l w, I k l w → Pl.VI P (Exit.then (fun a' w' => ∃ k' l', k' < k ∧ Pl.Ag n ds a' l' ∧ I k' l' w') (Pl.KsI P ro Q cs)) ro n ds [c] l w) : Pl.VI P Q ro n ds (.loop c :: cs) l w := fun a ha =>
  wpIn_loop_ghost (fun k a w => ∃ l, Pl.Ag n ds a l ∧ I k l w) k ⟨l, ha, h0⟩ fun k a w ⟨l, ha, hI⟩ => Code.wpIn_mono (fun e a' w' hq => by
    cases e with
    | normal => obtain ⟨k', l', h1, h2, h3⟩ := hq; exact ⟨k', h1, l', h2, h3⟩
    | _ => exact hq) (hs k l w hI a ha)
theorem Pl.VI_again {I : Nat → List (Nat × Value) → World → Prop} {Q' : Exit → Act → World → Prop} {k k' : Nat} (l' : List (Nat × Value)) (hs : Pl.subl l l') (hk : k' < k) (hI : I k' l' w) :
    Pl.VI P (Exit.then (fun a' w' => ∃ k' l', k' < k ∧ Pl.Ag n ds a' l' ∧ I k' l' w') Q') ro n ds [] l w := fun a ha => ⟨k', l', hk, ha.less (Pl.subl_look hs), hI⟩
theorem Pl.VI_exitTo {id : Nat} {cs' : List Code} (h : ∀ a, Pl.Ag n ds a l → Q (.exit id) a w) : Pl.VI P Q ro n ds (.exit id :: cs') l w := fun a ha => wpIn_exit (Pl.KsI_exit (h a ha))
theorem Pl.VI_cut1 {c rest : Code} (R : List (Nat × Value) → World → Prop) (h1 : ∀ l' w', R l' w' → Pl.VI P Q ro n ds (rest :: cs) l' w') (h2 : (∀ l' w', R l' w' → Pl.VI P Q ro n ds (rest :: cs) l' w') → Pl.VI P Q ro n ds (c :: rest :: cs) l w) : Pl.VI P Q ro n ds (c :: rest :: cs) l w := h2 h1
theorem Pl.VI_use {rest : Code} {R : List (Nat × Value) → World → Prop} (l' : List (Nat × Value)) (hc : ∀ l' w', R l' w' → Pl.VI P Q ro n ds (rest :: cs) l' w') (hs : Pl.subl l l') (h : R l' w) : Pl.VI P Q ro n ds (rest :: cs) l w := Pl.VI_sub l' hs (hc _ _ h)
theorem Pl.lets_rp {q : Nat} {R : Ending → World → Prop} : ¬ LetsOut (roundPost P q R) := fun ⟨_, _, h⟩ => h
theorem Pl.lets_block {id : Nat} (h : ¬ LetsOut Q) : ¬ LetsOut (Exit.inBlock id Q) := fun ⟨a, w, g⟩ => h ⟨a, w, g⟩
theorem Pl.lets_then {N : Act → World → Prop} (h : ¬ LetsOut Q) : ¬ LetsOut (Exit.then N Q) := fun ⟨a, w, g⟩ => h ⟨a, w, g⟩
theorem Pl.lets_ksI (h : ¬ LetsOut Q) : ¬ LetsOut (Pl.KsI P ro Q cs) := fun ⟨a, w, g⟩ => h ⟨a, w, Pl.KsI_out g⟩
theorem Pl.pan_rp {q : Nat} {R : Ending → World → Prop} : ∀ c (d : Option Tmp) v a w, roundPost P q R (.panic c) (a.put d v) w → roundPost P q R (.panic c) a w := fun _ _ _ _ _ h => h.elim
theorem Pl.KsI_panic : ∀ {cs : List Code} {c : _} {a : Act} {w : World}, Pl.KsI P ro Q cs (.panic c) a w ↔ Q (.panic c) a w
  | [], _, _, _ => Iff.rfl
  | _ :: cs, _, _, _ => Pl.KsI_panic (cs := cs)
theorem Pl.pan_ksI (hQ : ∀ c (d : Option Tmp) v a w, Q (.panic c) (a.put d v) w → Q (.panic c) a w) : ∀ c (d : Option Tmp) v a w, Pl.KsI P ro Q cs (.panic c) (a.put d v) w → Pl.KsI P ro Q cs (.panic c) a w := fun c d v a w h => Pl.KsI_panic.2 (hQ c d v a w (Pl.KsI_panic.1 h))
theorem Pl.at_VI {a : Act} (ha : Pl.Ag n ds a l) (h : Pl.VI P Q ro n ds cs l w) : Pl.KsI P ro Q cs .normal a w := h a ha
end
section
variable {P : Program} {L : List Oper} {S : World → Prop} {K : List (Nat × Value) → World → Prop} {kk : Bool} {i m d : Nat} {o : Oper} {x y : Operand} {r : List (Bool × Nat × Nat)} {l : List (Nat × Value)} {w : World}
/-- Rows of Booleans. -/
def bc (st : List Bool) : List Value := st.map .bool
theorem bc_len (st : List Bool) : (bc st).length = st.length := by simp [bc]
theorem bc_get {st : List Bool} {j : Nat} (h : j < st.length) : (bc st)[j]? = some (.bool st[j]) := by simp [bc, h]
theorem bc_set (st : List Bool) (j : Nat) (b : Bool) : (bc st).set j (.bool b) = bc (st.set j b) := by simp [bc, List.map_set]
theorem bc_is (st : List Bool) : ∀ c ∈ bc st, ∃ b, c = .bool b := fun c hc => by obtain ⟨b, _, rfl⟩ := List.mem_map.1 hc; exact ⟨b, rfl⟩
theorem makeBs {n : Nat} {z : Int} (hz : z = (n : Int)) (ho : Pl.nth L i = some o) (hp : o.op = .makeSlice 78 x y) (hd : o.dst = some d) (hg : Pl.gd L l o.guard = some true) (hx : Pl.opv l x = some (.int .i64 z)) (hy : Pl.opv l y = some (.int .i64 z)) (hn : n ≤ 1000000000)
    (hS : ∀ Y, Pl.Ex w Y → S Y) (h : ∀ N w', Pl.Ex w w' → w.heap.size ≤ N → Pl.Cb w' N 4 (bc (List.replicate n false)) → Pl.wpA Tryz.prog L S K r ((d, .slice (some ⟨N, 0, none⟩) n n) :: l) w') : Pl.wpA Tryz.prog L S K ((false, i, m) :: r) l w := by
  subst hz
  have hinf : (Tryz.prog.info? 4).map (fun i => (i.zero, i.size, i.bytes)) = some (some (.bool false), 1, 1) := by kernel_rfl
  have hr := run_make_row' (P := Tryz.prog) 78 4 (.bool false) 1 (by kernel_rfl) hinf rfl .i64 .i64 n (by omega) (by omega) w
  have e1 := Pl.Ex.alloc w (.cells (madeCells #[.bool false] n) 4)
  have hm : madeCells #[Value.bool false] n = (bc (List.replicate n false)).toArray := by
    apply Array.ext
    · simp [madeCells, bc]
    · intro j h1 h2
      simp [madeCells, bc, Nat.mod_one]
  refine Pl.pA_val (w' := w.alloc (.cells (madeCells #[.bool false] n) 4)) (v := .slice (some ⟨w.heap.size, 0, none⟩) n n) ho hd hg (fun ρ hρ => ?_) (hS _ e1) (h _ _ e1 (Nat.le_refl _) ?_)
  · unfold execOp; rw [hp]
    refine Pl.run_valW _ ?_
    rw [hρ.opv hx, hρ.opv hy]
    exact hr
  · rw [hm]; exact Pl.Cb.new w _ _
end
/-- A natural isn't a row of Booleans. -/
theorem Un.bools {X Y : World} {v : Value} {n M : Nat} {T : TypeId} {cs : List Value} (h : Un X v n) (hM : Pl.Cb X M T cs) (hb : ∀ c ∈ cs, ∃ b, c = .bool b) (k : Pl.Xs [M] X Y) : Un Y v n := by
  obtain ⟨A, c, rfl, hc, hx, hr⟩ := h
  refine ⟨A, c, rfl, hc, hx, fun h0 => ?_⟩
  obtain ⟨ad, rfl, hlt, hcell⟩ := hr h0
  refine ⟨ad, rfl, Nat.lt_of_lt_of_le hlt k.size, fun j hj => ?_⟩
  have h1 := hcell j hj
  have hne : ad.block ≠ M := fun e => by
    have h2 : (ad.add j).block = M := by rw [addr_add_block]; exact e
    unfold World.cell? at h1
    rw [h2] at h1
    unfold Pl.Cb at hM
    rw [hM] at h1
    simp at h1
    obtain ⟨_, h3⟩ := h1
    have h4 := List.mem_of_getElem? h3
    obtain ⟨b, hb'⟩ := hb _ h4
    cases hb'
  rw [← h1]
  unfold World.cell?
  rw [addr_add_block, k.block _ hlt (by simpa using hne)]
/-- What the sieve has struck: all multiples of primes below q, from their squares on. -/
def Sv (st : List Bool) (q : Nat) : Prop := ∀ m (h : m < st.length), st[m] = true ↔ ∃ d, Rt.Pr d ∧ d < q ∧ d ∣ m ∧ d * d ≤ m
theorem Sv.start (n : Nat) : Sv (List.replicate n false) 2 := fun m h => by
  constructor
  · intro h1; simp at h1
  · rintro ⟨d, h1, h2, _⟩; have := h1.1; omega
theorem Sv.at {st : List Bool} {q : Nat} (h : Sv st q) (hq : q < st.length) (h2 : 2 ≤ q) : (Rt.Pr q → st[q] = false) ∧ (¬ Rt.Pr q → st[q] = true) := by
  by_cases hp : Rt.Pr q
  · refine ⟨fun _ => ?_, fun h => absurd hp h⟩
    refine Bool.eq_false_iff.2 fun hs => ?_
    obtain ⟨d, h3, h4, h5, _⟩ := (h q hq).1 hs
    rcases hp.2 d h5 with e | e
    · have := h3.1; omega
    · omega
  · refine ⟨fun h => absurd h hp, fun _ => ?_⟩
    refine (h q hq).2 ?_
    refine Classical.byContradiction fun hn => hp (Rt.pr_trial (by omega) fun d hd2 hdd hm => ?_)
    obtain ⟨p, hp1, hp2, hp3⟩ := Rt.least_factor d (by omega)
    have hle := Nat.le_of_dvd (by omega) hp2
    have hpp := Nat.mul_le_mul hle hle
    refine hn ⟨p, ⟨hp1, hp3⟩, ?_, Nat.dvd_trans hp2 (Nat.dvd_of_mod_eq_zero hm), by omega⟩
    have : p * 2 ≤ p * p := Nat.mul_le_mul_left p hp1
    omega
theorem Sv.skip {st : List Bool} {q : Nat} (h : Sv st q) (hp : ¬ Rt.Pr q) : Sv st (q + 1) := fun m hm => by
  rw [h m hm]
  constructor
  · rintro ⟨d, h1, h2, h3⟩; exact ⟨d, h1, by omega, h3⟩
  · rintro ⟨d, h1, h2, h3⟩
    have : d ≠ q := fun e => hp (e ▸ h1)
    exact ⟨d, h1, by omega, h3⟩
/-- Multiples of q are struck up to m. -/
def Sm (st : List Bool) (q m : Nat) : Prop := ∀ i (h : i < st.length), st[i] = true ↔ (∃ d, Rt.Pr d ∧ d < q ∧ d ∣ i ∧ d * d ≤ i) ∨ (q ∣ i ∧ q * q ≤ i ∧ i < m)
theorem Sv.begin {st : List Bool} {q : Nat} (h : Sv st q) : Sm st q (q * q) := fun i hi => by
  rw [h i hi]
  constructor
  · exact .inl
  · rintro (h1 | ⟨_, h2, h3⟩)
    · exact h1
    · omega
theorem Sm.step {st : List Bool} {q m : Nat} (h : Sm st q m) (hm : m < st.length) (hd : q ∣ m) (hq : q * q ≤ m) (h0 : 0 < q) : Sm (st.set m true) q (m + q) := fun i hi => by
  rw [List.length_set] at hi
  rw [List.getElem_set]
  split
  · next e =>
    subst e
    exact ⟨fun _ => .inr ⟨hd, hq, by omega⟩, fun _ => rfl⟩
  · next e =>
    rw [h i hi]
    constructor
    · rintro (h1 | ⟨h1, h2, h3⟩)
      · exact .inl h1
      · exact .inr ⟨h1, h2, by omega⟩
    · rintro (h1 | ⟨h1, h2, h3⟩)
      · exact .inl h1
      · refine .inr ⟨h1, h2, ?_⟩
        obtain ⟨a, rfl⟩ := hd
        obtain ⟨b, rfl⟩ := h1
        have h4 : b < a + 1 := Nat.lt_of_mul_lt_mul_left (a := q) (by rw [Nat.mul_add, Nat.mul_one]; exact h3)
        have h5 : b ≠ a := fun e2 => e (by rw [e2])
        exact Nat.mul_lt_mul_of_pos_left (by omega) h0
theorem Sm.end_ {st : List Bool} {q m : Nat} (h : Sm st q m) (hm : st.length ≤ m) (hp : Rt.Pr q) : Sv st (q + 1) := fun i hi => by
  rw [h i hi]
  constructor
  · rintro (⟨d, h1, h2, h3⟩ | ⟨h1, h2, h3⟩)
    · exact ⟨d, h1, by omega, h3⟩
    · exact ⟨q, hp, by omega, h1, h2⟩
  · rintro ⟨d, h1, h2, h3, h4⟩
    rcases Nat.lt_or_ge d q with h5 | h5
    · exact .inl ⟨d, h1, h5, h3, h4⟩
    · obtain rfl : d = q := by omega
      exact .inr ⟨h3, h4, by omega⟩
end Go.Proofs.YtbdmncpibnligaaGreatDoor
/- The primes, one after another. -/
namespace Go.Proofs.YtbdmncpibnligaaGreatDoor
open Go.RowKit 
set_option linter.unusedVariables false
set_option linter.unusedSimpArgs false
set_option maxRecDepth 100000
set_option maxHeartbeats 4000000
theorem primes_calls (w : World) (n : Nat) :
    Calls Tryz.prog 48 #[.int .i64 ((n : Nat) : Int)] w fun e w' => ∃ N, e = .returned (.func (.func 72) #[] #[.pointer (some ⟨N, 0, none⟩)]) ∧ w.heap.size ≤ N ∧ Pl.Cb w' N 3 [.int .i64 ((n : Nat) : Int)] ∧ Pl.Ex w w' := by
  refine Pl.calls_by (n := 4) (vs := [.int .i64 ((n : Nat) : Int)]) Tryz.func48 rfl (by kernel_rfl) (by simp) ?_
  repeat refine Pl.V_seq ?_
  refine Pl.V_region (by kernel_rfl) ?_
  refine Pl.qA_bx (cs := [.int .i64 ((n : Nat) : Int)]) rfl rfl rfl rfl rfl rfl (fun Y hY => trivial) ?_
  intro N1 w1 hE1 hN_N1 k_N1_0
  have z_N1 := Pl.Cb.lt k_N1_0
  have sz1 := Pl.Ex.size hE1
  refine Pl.qA_go trivial rfl ?_
  refine Pl.pA_end ?_
  repeat refine Pl.V_seq ?_
  refine Pl.V_region (by kernel_rfl) ?_
  refine Pl.qA_func trivial rfl rfl rfl rfl rfl rfl ?_
  refine Pl.qA_go trivial rfl ?_
  refine Pl.pA_end ?_
  repeat refine Pl.V_seq ?_
  exact Pl.post_ret rfl rfl  (⟨_, rfl, by omega, k_N1_0, hE1⟩)
theorem primes1_calls (w : World) (n N lp : Nat) (Bs : List Nat) (hn : 1 ≤ n ∧ n ≤ 100000) (hBs : ∀ b ∈ Bs, b < w.heap.size) (J : Nat → World → Prop) (Jx : World → Prop) (h0 : J 2 w)
    (hJN : ∀ q X, J q X → Pl.Cb X N 3 [.int .i64 ((n : Nat) : Int)]) (hI : ∀ q X Y M cs, J q X → w.heap.size ≤ M → Pl.Cb X M 4 (bc cs) → Pl.Xs [M] X Y → J q Y) (hE : ∀ q X Y, J q X → Pl.Ex X Y → J q Y)
    (hskip : ∀ q X, J q X → 2 ≤ q → ¬ Rt.Pr q → J (q + 1) X)
    (hok : ∀ q X, J q X → 2 ≤ q → q ≤ n → Rt.Pr q → YW lp [.int .i64 ((q : Nat) : Int)] X fun e X' => (∃ b, e = .returned (.bool b) ∧ (b = true → J (q + 1) X') ∧ (b = false → Jx X')) ∧ Pl.Xs Bs X X') :
    Calls Tryz.prog 72 #[.func (.yield lp) #[] #[], .pointer (some ⟨N, 0, none⟩)] w fun e w' => e = .returned (.tuple #[]) ∧ (J (n + 1) w' ∨ Jx w') := by
  have kn := hJN _ _ h0
  have hn1 : 1 ≤ n := hn.1
  have hn2 : n ≤ 100000 := hn.2
  refine Pl.calls_by (n := 34) (vs := [.func (.yield lp) #[] #[], .pointer (some ⟨N, 0, none⟩)]) Tryz.func72 rfl (by kernel_rfl) (by simp) ?_
  repeat refine Pl.V_seq ?_
  refine Pl.V_region (by kernel_rfl) ?_
  refine Pl.qA_lcw (v := .int .i64 ((n : Nat) : Int)) Tryz.underlying3 rfl (Pl.Cb.at (j := 0) kn rfl) trivial rfl rfl rfl rfl rfl ?_
  refine Pl.qA_b (v := .int .i64 (((n + 1) : Nat) : Int)) (fun X => nb_add_i64 (a := n) (b := 1) (by omega) X) trivial rfl rfl rfl rfl rfl rfl ?_
  refine makeBs (n := n + 1) rfl rfl rfl rfl rfl rfl rfl (by omega) (fun _ _ => trivial) ?_
  intro M w1 hE1 hM kM
  have hj1 := hE _ _ _ h0 hE1
  refine Pl.qA_go trivial rfl ?_
  refine Pl.pA_end ?_
  repeat refine Pl.V_seq ?_
  refine Pl.V_region (by kernel_rfl) ?_
  refine Pl.qA_go trivial rfl ?_
  refine Pl.pA_end ?_
  repeat refine Pl.V_seq ?_
  refine Pl.V_block ?_
  repeat refine Pl.V_seq ?_
  refine Pl.V_sub [(0, .func (.yield lp) #[] #[]), (1, .pointer (some ⟨N, 0, none⟩)), (3, .slice (some ⟨M, 0, none⟩) (n + 1) (n + 1)), (4, .int .i64 2)] (Pl.subl_cons rfl (Pl.subl_cons rfl (Pl.subl_cons rfl (Pl.subl_cons rfl Pl.subl_nil)))) ?_
  repeat refine Pl.V_seq ?_
  refine Pl.V_loop (fun kq l' w' => ∃ (q : Nat) (st : List Bool), (n + 1 - q) = kq ∧ (2 ≤ q) ∧ (q ≤ n + 1) ∧ (J q w') ∧ (Pl.Cb w' M 4 (bc st)) ∧ (st.length = n + 1) ∧ (Sv st q) ∧ l' = [(0, .func (.yield lp) #[] #[]), (1, .pointer (some ⟨N, 0, none⟩)), (3, .slice (some ⟨M, 0, none⟩) (n + 1) (n + 1)), (4, .int .i64 ((q : Nat) : Int))]) _ ⟨2, _, rfl, (by decide), (by omega), hj1, kM, (by simp), (Sv.start _), rfl⟩ ?_
  rintro kq _ w2 ⟨q, st, hk2, hq2, hqn, hj, kM, hst, hsv, rfl⟩
  have hqq : q * q ≤ 10000200001 := by have := Nat.mul_le_mul (show q ≤ 100001 by omega) (show q ≤ 100001 by omega); omega
  have hqq : q * q ≤ 9223372036854775807 := by omega
  have kn := hJN _ _ hj
  repeat refine Pl.V_seq ?_
  refine Pl.V_region (by kernel_rfl) ?_
  refine Pl.qA_go trivial rfl ?_
  refine Pl.qA_lcw (v := .int .i64 ((n : Nat) : Int)) Tryz.underlying3 rfl (Pl.Cb.at (j := 0) kn rfl) trivial rfl rfl rfl rfl rfl ?_
  by_cases c1 : q ≤ n
  · refine Pl.qA_b (v := .bool true) (fun X => Pl.r_leq (decide_eq_true (by omega)) X) trivial rfl rfl rfl rfl rfl rfl ?_
    refine Pl.pA_end ?_
    repeat refine Pl.V_seq ?_
    refine Pl.V_true rfl ?_
    repeat refine Pl.V_seq ?_
    refine Pl.V_skip ?_
    repeat refine Pl.V_seq ?_
    refine Pl.V_block ?_
    repeat refine Pl.V_seq ?_
    refine Pl.V_region (by kernel_rfl) ?_
    refine Pl.qA_go trivial rfl ?_
    refine Pl.qA_ix (s := 1) (j := q) Tryz.underlying78 (by kernel_rfl) rfl (by omega) trivial rfl rfl rfl rfl rfl rfl ?_
    rw [Pl.add0]
    by_cases c2 : Rt.Pr q
    · refine Pl.qA_lcw (v := .bool false) Tryz.underlying4 rfl (Pl.Cb.at (j := q) kM ((bc_get (show q < st.length by omega)).trans (by rw [(hsv.at (by omega) (by omega)).1 c2]))) trivial rfl rfl rfl rfl rfl ?_
      refine Pl.pA_end ?_
      repeat refine Pl.V_seq ?_
      refine Pl.V_false rfl ?_
      repeat refine Pl.V_seq ?_
      refine Pl.V_skip ?_
      repeat refine Pl.V_seq ?_
      refine Pl.V_regionY (by kernel_rfl) ?_
      refine Pl.Y_op ?_
      refine Pl.qA_go trivial rfl ?_
      refine Pl.pA_end ?_
      refine Pl.Y_op ?_
      refine Pl.qA_go trivial rfl ?_
      refine Pl.pA_end ?_
      obtain ⟨rec, hrec, hrs, hrnd⟩ := hok _ _ hj (by omega) c1 c2
      refine Pl.Y_yield rfl rfl rfl rfl rfl rfl hrec hrs (hrnd.mono ?_)
      rintro e w3 ⟨⟨b, rfl, hbt, hbf⟩, hxk⟩
      refine ⟨_, rfl, Pl.Y_op ?_⟩
      have kM3 := Pl.Cb.xs kM hxk (fun hm => by have := hBs _ hm; omega)
      cases b
      · refine Pl.qA_un (v := .bool true) trivial rfl rfl rfl rfl rfl (fun X => rfl) ?_
        refine Pl.pA_end ?_
        refine Pl.Y_end ?_
        repeat refine Pl.V_seq ?_
        refine Pl.V_true rfl ?_
        repeat refine Pl.V_seq ?_
        exact Pl.post_ret0in rfl ⟨rfl, .inr (hbf rfl)⟩
      · refine Pl.qA_un (v := .bool false) trivial rfl rfl rfl rfl rfl (fun X => rfl) ?_
        refine Pl.pA_end ?_
        refine Pl.Y_end ?_
        have hj3 := hbt rfl
        have kn := hJN _ _ hj3
        repeat refine Pl.V_seq ?_
        refine Pl.V_false rfl ?_
        repeat refine Pl.V_seq ?_
        refine Pl.V_skip ?_
        repeat refine Pl.V_seq ?_
        refine Pl.V_region (by kernel_rfl) ?_
        refine Pl.qA_go trivial rfl ?_
        refine Pl.qA_b (v := .int .i64 (((q * q) : Nat) : Int)) (fun X => nb_mul_i64 (a := q) (b := q) (by exact hqq) X) trivial rfl rfl rfl rfl rfl rfl ?_
        refine Pl.qA_go trivial rfl ?_
        refine Pl.pA_end ?_
        repeat refine Pl.V_seq ?_
        refine Pl.V_block ?_
        repeat refine Pl.V_seq ?_
        refine Pl.V_sub [(0, .func (.yield lp) #[] #[]), (1, .pointer (some ⟨N, 0, none⟩)), (3, .slice (some ⟨M, 0, none⟩) (n + 1) (n + 1)), (4, .int .i64 ((q : Nat) : Int)), (5, .int .i64 (((q * q) : Nat) : Int))] (Pl.subl_cons rfl (Pl.subl_cons rfl (Pl.subl_cons rfl (Pl.subl_cons rfl (Pl.subl_cons rfl Pl.subl_nil))))) ?_
        repeat refine Pl.V_seq ?_
        refine Pl.V_loop (fun kq l' w' => ∃ (m : Nat) (sr : List Bool), (n + q * q + 1 - m) = kq ∧ (J (q + 1) w') ∧ (Pl.Cb w' M 4 (bc sr)) ∧ (sr.length = n + 1) ∧ (Sm sr q m) ∧ (q ∣ m) ∧ (q * q ≤ m) ∧ (m ≤ n + q * q) ∧ l' = [(0, .func (.yield lp) #[] #[]), (1, .pointer (some ⟨N, 0, none⟩)), (3, .slice (some ⟨M, 0, none⟩) (n + 1) (n + 1)), (4, .int .i64 ((q : Nat) : Int)), (5, .int .i64 ((m : Nat) : Int))]) _ ⟨(q * q), st, rfl, hj3, kM3, hst, hsv.begin, (Nat.dvd_mul_right q q), (Nat.le_refl _), (Nat.le_add_left _ _), rfl⟩ ?_
        rintro kq _ w4 ⟨m, sr, hk4, hji, kMi, hsti, hsm, hdm, hqm, hmn, rfl⟩
        have kn := hJN _ _ hji
        repeat refine Pl.V_seq ?_
        refine Pl.V_region (by kernel_rfl) ?_
        refine Pl.qA_go trivial rfl ?_
        refine Pl.qA_lcw (v := .int .i64 ((n : Nat) : Int)) Tryz.underlying3 rfl (Pl.Cb.at (j := 0) kn rfl) trivial rfl rfl rfl rfl rfl ?_
        by_cases c3 : m ≤ n
        · refine Pl.qA_b (v := .bool true) (fun X => Pl.r_leq (decide_eq_true (by omega)) X) trivial rfl rfl rfl rfl rfl rfl ?_
          refine Pl.pA_end ?_
          repeat refine Pl.V_seq ?_
          refine Pl.V_true rfl ?_
          repeat refine Pl.V_seq ?_
          refine Pl.V_skip ?_
          repeat refine Pl.V_seq ?_
          refine Pl.V_block ?_
          repeat refine Pl.V_seq ?_
          refine Pl.V_region (by kernel_rfl) ?_
          refine Pl.qA_go trivial rfl ?_
          refine Pl.qA_ix (s := 1) (j := m) Tryz.underlying78 (by kernel_rfl) rfl (by omega) trivial rfl rfl rfl rfl rfl rfl ?_
          rw [Pl.add0]
          refine Pl.qA_s1 (j := m) (u := .bool true) kMi (by rw [bc_len]; omega) (by kernel_rfl) rfl rfl rfl rfl rfl rfl rfl rfl (fun Y hY => trivial) ?_
          intro w5 hX5 kM5
          rw [bc_set] at kM5
          have hj5 := hI _ _ _ M _ hji (by omega) kMi hX5
          refine Pl.pA_end ?_
          refine Pl.V_endblock ?_
          repeat refine Pl.V_seq ?_
          refine Pl.V_region (by kernel_rfl) ?_
          refine Pl.qA_go trivial rfl ?_
          refine Pl.qA_b (v := .int .i64 (((m + q) : Nat) : Int)) (fun X => nb_add_i64 (a := m) (b := q) (by omega) X) trivial rfl rfl rfl rfl rfl rfl ?_
          refine Pl.qA_go trivial rfl ?_
          refine Pl.pA_end ?_
          repeat refine Pl.V_seq ?_
          refine Pl.V_again (k' := (n + q * q + 1 - (m + q))) [(0, .func (.yield lp) #[] #[]), (1, .pointer (some ⟨N, 0, none⟩)), (3, .slice (some ⟨M, 0, none⟩) (n + 1) (n + 1)), (4, .int .i64 ((q : Nat) : Int)), (5, .int .i64 (((m + q) : Nat) : Int))] (Pl.subl_cons rfl (Pl.subl_cons rfl (Pl.subl_cons rfl (Pl.subl_cons rfl (Pl.subl_cons rfl Pl.subl_nil))))) (by omega) ⟨(m + q), _, rfl, hj5, kM5, (by rw [List.length_set]; exact hsti), (hsm.step (by omega) hdm hqm (by omega)), (Nat.dvd_add hdm (Nat.dvd_refl q)), (by omega), (by have := Nat.le_mul_of_pos_left q (show 0 < q by omega); omega), rfl⟩
        · refine Pl.qA_b (v := .bool false) (fun X => Pl.r_leq (decide_eq_false (by omega)) X) trivial rfl rfl rfl rfl rfl rfl ?_
          refine Pl.pA_end ?_
          repeat refine Pl.V_seq ?_
          refine Pl.V_false rfl ?_
          repeat refine Pl.V_seq ?_
          refine Pl.V_exit ?_
          refine Pl.V_endblock ?_
          repeat refine Pl.V_seq ?_
          refine Pl.V_region (by kernel_rfl) ?_
          refine Pl.qA_go trivial rfl ?_
          refine Pl.qA_b (v := .int .i64 (((q + 1) : Nat) : Int)) (fun X => nb_add_i64 (a := q) (b := 1) (by omega) X) trivial rfl rfl rfl rfl rfl rfl ?_
          refine Pl.qA_go trivial rfl ?_
          refine Pl.pA_end ?_
          repeat refine Pl.V_seq ?_
          refine Pl.V_again (k' := (n + 1 - (q + 1))) [(0, .func (.yield lp) #[] #[]), (1, .pointer (some ⟨N, 0, none⟩)), (3, .slice (some ⟨M, 0, none⟩) (n + 1) (n + 1)), (4, .int .i64 (((q + 1) : Nat) : Int))] (Pl.subl_cons rfl (Pl.subl_cons rfl (Pl.subl_cons rfl (Pl.subl_cons rfl Pl.subl_nil)))) (by omega) ⟨(q + 1), sr, rfl, (by omega), (by omega), hji, kMi, hsti, (hsm.end_ (by rw [hsti]; omega) c2), rfl⟩
    · refine Pl.qA_lcw (v := .bool true) Tryz.underlying4 rfl (Pl.Cb.at (j := q) kM ((bc_get (show q < st.length by omega)).trans (by rw [(hsv.at (by omega) (by omega)).2 c2]))) trivial rfl rfl rfl rfl rfl ?_
      refine Pl.pA_end ?_
      repeat refine Pl.V_seq ?_
      refine Pl.V_true rfl ?_
      repeat refine Pl.V_seq ?_
      refine Pl.V_exitHere ?_
      repeat refine Pl.V_seq ?_
      refine Pl.V_region (by kernel_rfl) ?_
      refine Pl.qA_go trivial rfl ?_
      refine Pl.qA_b (v := .int .i64 (((q + 1) : Nat) : Int)) (fun X => nb_add_i64 (a := q) (b := 1) (by omega) X) trivial rfl rfl rfl rfl rfl rfl ?_
      refine Pl.qA_go trivial rfl ?_
      refine Pl.pA_end ?_
      repeat refine Pl.V_seq ?_
      refine Pl.V_again (k' := (n + 1 - (q + 1))) [(0, .func (.yield lp) #[] #[]), (1, .pointer (some ⟨N, 0, none⟩)), (3, .slice (some ⟨M, 0, none⟩) (n + 1) (n + 1)), (4, .int .i64 (((q + 1) : Nat) : Int))] (Pl.subl_cons rfl (Pl.subl_cons rfl (Pl.subl_cons rfl (Pl.subl_cons rfl Pl.subl_nil)))) (by omega) ⟨(q + 1), st, rfl, (by omega), (by omega), (hskip _ _ hj (by omega) c2), kM, hst, (hsv.skip c2), rfl⟩
  · refine Pl.qA_b (v := .bool false) (fun X => Pl.r_leq (decide_eq_false (by omega)) X) trivial rfl rfl rfl rfl rfl rfl ?_
    refine Pl.pA_end ?_
    repeat refine Pl.V_seq ?_
    refine Pl.V_false rfl ?_
    repeat refine Pl.V_seq ?_
    refine Pl.V_exit ?_
    obtain rfl : q = n + 1 := by omega
    exact Pl.post_none rfl ⟨rfl, .inl hj⟩
end Go.Proofs.YtbdmncpibnligaaGreatDoor
