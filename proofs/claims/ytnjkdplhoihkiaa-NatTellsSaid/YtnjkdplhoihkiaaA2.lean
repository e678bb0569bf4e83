/- The iterator of nat.Add and nat.Sub: limbs place by place. -/
import Derived.Test.YtnjkdplhoihkiaaA1
namespace Go.Proofs.Ytnjkdplhoihkiaa
open Go.RowKit Go.Shelf
set_option linter.unusedVariables false
attribute [local go_sem] Oper.semAt_some

abbrev encP (p : P32) : Array Value := #[.int .u32 (p.1.1 : Int), .int .u32 (p.1.2 : Int)]

def mkP {xs ys : List Nat} (hx : ∀ x ∈ xs, x < 4294967296) (hy : ∀ x ∈ ys, x < 4294967296) (j : Nat) : P32 := ⟨(lb xs j, lb ys j), lb_lt hx j, lb_lt hy j⟩

/-- What a round keeps: whatever lay below n₀, and two boxes. -/
structure KpP (n₀ Ba Bb : Nat) (W W' : World) : Prop where
  bel : Below n₀ W W'
  ba : W'.heap[Ba]? = W.heap[Ba]?
  bb : W'.heap[Bb]? = W.heap[Bb]?
theorem KpP.refl (n₀ Ba Bb : Nat) (W : World) : KpP n₀ Ba Bb W W := ⟨Below.refl _ _, rfl, rfl⟩
theorem KpP.trans {n₀ Ba Bb : Nat} {A B C : World} (h : KpP n₀ Ba Bb A B) (k : KpP n₀ Ba Bb B C) : KpP n₀ Ba Bb A C := ⟨h.bel.trans k.bel, k.ba.trans h.ba, k.bb.trans h.bb⟩
theorem kpP_b {n₀ Ba Bb : Nat} {w : World} (hn : n₀ ≤ w.heap.size) (ha : Ba < w.heap.size) (hb : Bb < w.heap.size) (W : World) (l : Nat) (o o' : Obj) (hl : w.heap.size ≤ l) (h : W.heap[l]? = some o) (h1 : o.isCells = false) (h2 : o.isWalk = false) : KpP n₀ Ba Bb W (W.putObj l o') := by
  have hg := grownBy_putObj' W l o'
  have hlt := (Array.getElem?_eq_some_iff.1 h).1
  exact ⟨belowK_b hn W l o o' hl h h1 h2, hg.block Ba (by omega) (fun e => by injection e with e; omega), hg.block Bb (by omega) (fun e => by injection e with e; omega)⟩

set_option maxRecDepth 100000 in
set_option maxHeartbeats 4000000 in
theorem pairs1_in (l Ba Bb : Nat) (A A2 : Option Addr) (c c2 : Nat) (xs ys : List Nat) (hle : ys.length ≤ xs.length) (n₀ : Nat) (W : World)
    (hUa : U W (.slice A xs.length c) xs) (hUb : U W (.slice A2 ys.length c2) ys) (hba : ∀ ad, A = some ad → 0 < xs.length → ad.block < n₀) (hbb : ∀ ad, A2 = some ad → 0 < ys.length → ad.block < n₀) (J Jx : List P32 → World → Prop)
    (hY : ∀ pre x W, J pre W → pre.length < xs.length → YieldAt Fence.wide 2 Try.prog l (encP x) W fun e W' =>
      (e = .returned (.bool true) ∧ J (pre ++ [x]) W' ∧ KpP n₀ Ba Bb W W') ∨ (e = .returned (.bool false) ∧ Jx (pre ++ [x]) W'))
    (hca : W.cell? ⟨Ba, 0, none⟩ = some (.slice A xs.length c)) (hcb : W.cell? ⟨Bb, 0, none⟩ = some (.slice A2 ys.length c2)) (h0 : J [] W) :
    CallsIn Fence.wide 3 Try.prog 46 #[.func (.yield l) #[] #[], .pointer (some ⟨Bb, 0, none⟩), .pointer (some ⟨Ba, 0, none⟩)] W fun e W' => (∃ v, e = .returned v) ∧
      ((∃ l, l.map (·.1) = pairsL xs ys xs.length ∧ J l W') ∨ (∃ pre, True ∧ Jx pre W')) := by
  obtain ⟨_, _, hva, ⟨h1, h2⟩, hx, hr⟩ := hUa
  injection hva with e1 _ e3
  subst e1 e3
  obtain ⟨_, _, hvb, ⟨h3, h4⟩, hy, hr2⟩ := hUb
  injection hvb with e1 _ e3
  subst e1 e3
  refine callsIn_of_wp Try.func46 rfl trivial ?_ rfl
  simp only [Try.ntmps46, List.size_toArray, List.length_cons, List.length_nil, Nat.reduceAdd, Nat.reduceSub, Array.replicate_succ, Array.replicate_zero, List.push_toArray, List.append_toArray, List.nil_append, List.cons_append]
  gi_wp2
  gi_loopw [10] (fun i wr => ∃ (k : Nat) (pre : List P32), k ≤ ys.length ∧ i = .int .i64 (k : Int) ∧ Hid (pre.map (·.1) = pairsL xs ys k) ∧ J pre wr ∧ KpP n₀ Ba Bb W wr)
    (fun i _ => ys.length - (intOf i).toNat)
  case atStart => exact ⟨0, [], Nat.zero_le _, rfl, rfl, h0, KpP.refl _ _ _ _⟩
  case round =>
    obtain ⟨k, pre, hk, rfl, hp, hJs, hnx⟩ := hrel
    have hca' := (World.cell?_of_block (w := W) (a := ⟨Ba, 0, none⟩) hnx.ba).trans hca
    have hcb' := (World.cell?_of_block (w := W) (a := ⟨Bb, 0, none⟩) hnx.bb).trans hcb
    by_cases hlt : k < ys.length
    · obtain ⟨ad, rfl, hb, hcell⟩ := hr (by omega)
      obtain ⟨ad2, rfl, hb2, hcell2⟩ := hr2 (by omega)
      have hc1 := (hnx.bel.cell (p := ad.add k) (by rw [addr_add_block]; exact hba ad rfl (by omega))).trans (hcell k (by omega))
      have hc2 := (hnx.bel.cell (p := ad2.add k) (by rw [addr_add_block]; exact hbb ad2 rfl (by omega))).trans (hcell2 k hlt)
      have hpl : pre.length = k := by have := congrArg List.length hp.out; simpa [pairsL] using this
      obtain ⟨fn, tmps, assign, body, hy1, hR⟩ := hY pre (mkP hx hy k) wr hJs (by omega)
      dsimp only [encP, mkP] at hy1
      have HP := Lib.hid hpl
      have hkx : ((k : Nat) : Int) < xs.length := by omega
      clear hpl
      gi_wp2
      refine hR.mono ?_
      rintro e W3 (⟨rfl, hJ3, hk3⟩ | ⟨rfl, hJx3⟩)
      · gi_wp2
        go_roundw
        case rel => exact ⟨k + 1, _, by omega, by go_num, by rw [Hid, List.map_append, hp.out, pairsL_succ]; rfl, hJ3, hnx.trans hk3⟩
        case measure => simp [intOf]; omega
      · gi_wp2
        refine bodyPost_ret (results_none rfl _ _ _) rfl ?_
        exact ⟨⟨_, rfl⟩, .inr ⟨_, trivial, hJx3⟩⟩
    · obtain rfl : k = ys.length := by omega
      rcases Nat.lt_or_ge ys.length xs.length with hl2 | hl2
      · obtain ⟨ad, rfl, hb, hcell⟩ := hr (by omega)
        have hcne : ¬ c = ys.length := by omega
        gi_wp2
        gi_loopw [29] (fun i wr => ∃ (k : Nat) (pre : List P32), k ≤ xs.length - ys.length ∧ i = .int .i64 (k : Int) ∧ Hid (pre.map (·.1) = pairsL xs ys (ys.length + k)) ∧ J pre wr ∧ KpP n₀ Ba Bb W wr)
          (fun i _ => xs.length - ys.length - (intOf i).toNat)
        case atStart => exact ⟨0, pre, Nat.zero_le _, rfl, hp, hJs, hnx⟩
        case round =>
          clear hp hJs hnx hca' hcb' pre
          obtain ⟨k, pre, hk, rfl, hp, hJs, hnx⟩ := hrel
          by_cases hlt : k < xs.length - ys.length
          · have hc1 : wr.cell? ((ad.add ys.length).add k) = some (.int .u32 ((lb xs (ys.length + k) : Nat) : Int)) := by
              rw [addr_add_add]
              exact (hnx.bel.cell (p := ad.add (ys.length + k)) (by rw [addr_add_block]; exact hba ad rfl (by omega))).trans (hcell _ (by omega))
            have hpl : pre.length = ys.length + k := by have := congrArg List.length hp.out; simpa [pairsL] using this
            obtain ⟨fn, tmps, assign, body, hy1, hR⟩ := hY pre (mkP hx hy (ys.length + k)) wr hJs (by omega)
            dsimp only [encP, mkP] at hy1
            rw [lb_out (show ys.length ≤ ys.length + k by omega), show (((0 : Nat)) : Int) = 0 from rfl] at hy1
            have HP := Lib.hid hpl
            clear hpl
            by_cases hk0 : k = 0
            · subst hk0
              rw [addr_add_zero, Nat.add_zero] at hc1
              rw [Nat.add_zero] at hy1
              gi_wp2
              refine hR.mono ?_
              rintro e W3 (⟨rfl, hJ3, hk3⟩ | ⟨rfl, hJx3⟩)
              · gi_wp2
                go_roundw
                case rel => exact ⟨1, _, by omega, by go_num, by rw [Hid, List.map_append, hp.out, pairsL_succ]; rfl, hJ3, hnx.trans hk3⟩
                case measure => simp [intOf]; omega
              · gi_wp2
                refine bodyPost_ret (results_none rfl _ _ _) rfl ?_
                exact ⟨⟨_, rfl⟩, .inr ⟨_, trivial, hJx3⟩⟩
            · gi_wp2
              refine hR.mono ?_
              rintro e W3 (⟨rfl, hJ3, hk3⟩ | ⟨rfl, hJx3⟩)
              · gi_wp2
                go_roundw
                case rel => exact ⟨k + 1, _, by omega, by go_num, by rw [Hid, List.map_append, hp.out, ← Nat.add_assoc, pairsL_succ]; rfl, hJ3, hnx.trans hk3⟩
                case measure => simp [intOf]; omega
              · gi_wp2
                refine bodyPost_ret (results_none rfl _ _ _) rfl ?_
                exact ⟨⟨_, rfl⟩, .inr ⟨_, trivial, hJx3⟩⟩
          · have HP : Hid (pre.map (·.1) = pairsL xs ys xs.length) := by rw [Hid, hp.out, show ys.length + k = xs.length by omega]
            gi_wp2
            go_end0
            exact ⟨⟨_, rfl⟩, .inl ⟨_, HP.out, hJs⟩⟩
      · have HP : Hid (pre.map (·.1) = pairsL xs ys xs.length) := by rw [Hid, hp.out, show ys.length = xs.length by omega]
        have hz : xs.length - ys.length = 0 := by omega
        have hxy : xs.length = ys.length := by omega
        have HJ := Lib.hid hJs
        clear hJs hp
        rw [hxy] at hca'
        clear hxy hz
        gi_wp2
        all_goals
          gi_loopw [29] (fun i wr => i = .int .i64 0 ∧ J pre wr) (fun _ _ => 0)
          case atStart => exact ⟨rfl, HJ.out⟩
          case round =>
            obtain ⟨rfl, hJs⟩ := hrel
            gi_wp2
            go_end0
            exact ⟨⟨_, rfl⟩, .inl ⟨_, HP.out, hJs⟩⟩

/-- Its contract: the limbs of both rows, place by place, as many as the first one has. -/
theorem pairs_stops (Ba Bb : Nat) (v u : Value) (xs ys : List Nat) (w0 w : World) (hB : Below w0.heap.size w0 w) (hle : ys.length ≤ xs.length) (hBa : Ba < w.heap.size) (hBb : Bb < w.heap.size)
    (hca : Boxed w Ba 22 v) (hcb : Boxed w Bb 22 u) (hU : U w0 v xs) (hV : U w0 u ys) :
    SeqStopsK Fence.wide 3 Try.prog 46 #[.pointer (some ⟨Bb, 0, none⟩), .pointer (some ⟨Ba, 0, none⟩)] encP (KpP w0.heap.size Ba Bb) (fun l => l.map (·.1) = pairsL xs ys xs.length)
      (fun pre => True) xs.length w := fun l J Jx W hW _ _ hY h0 => by
  obtain ⟨A, c, rfl, h1, hx, hr⟩ := id hU
  obtain ⟨A2, c2, rfl, h2, hy, hr2⟩ := id hV
  have hW' := hB.trans (hW.mono hB.size)
  exact pairs1_in l Ba Bb A A2 c c2 xs ys hle w0.heap.size W (hU.below hW') (hV.below hW')
    (fun ad e h0 => by obtain ⟨ad', e', hb, _⟩ := hr h0; rw [e] at e'; injection e' with e'; subst e'; exact hb)
    (fun ad e h0 => by obtain ⟨ad', e', hb, _⟩ := hr2 h0; rw [e] at e'; injection e' with e'; subst e'; exact hb) J Jx hY
    ((hW.cell (p := ⟨Ba, 0, none⟩) hBa).trans hca.cell) ((hW.cell (p := ⟨Bb, 0, none⟩) hBb).trans hcb.cell) h0
end Go.Proofs.Ytnjkdplhoihkiaa
