/- walks -/
import Derived.Test.YtigdflfhepelaaaGreatDoorPd
import Derived.RangeFuncNested
import Derived.RangeFuncBound
import Derived.RangeFuncCalls
import Derived.RangeFuncLeaves
import Derived.RangeFuncBox
import Derived.Shelf.Abstract
import Derived.Shelf.RegionOpen
import Derived.WalkKit
import Derived.OwnWalkIn
import Derived.TacticsInMore
import Derived.LoopNIn
import Derived.LoopIn
import Derived.Maps.AppendAt
import Derived.Laws.EntriesVeiled

namespace Go.Proofs.YtigdflfhepelaaaGreatDoor
open Go.RowKit
set_option linter.unusedVariables false
set_option maxHeartbeats 400000
set_option maxRecDepth 100000
theorem ret_int' {k : IntKind} {a b : Int} (h : a = b) : Ending.returned (.int k a) = .returned (.int k b) := by rw [h]

theorem info46 : (Tryz.prog.info? 46).map (fun i => (i.zero, i.size, i.bytes)) = some (some (.int .u32 0), 1, 4) := by kernel_rfl

theorem shl_calls (w : World) (v : Value) (n : Nat) (k : Int) (hk0 : 0 ≤ k) (hk1 : k ≤ 1000000000) (h : Un w v n) (hl : (limbs n).length ≤ 1000000000) :
    Calls Tryz.prog 70 #[v, .int .i64 k] w fun e w' => (∃ u, e = .returned u ∧ Un w' u (n * 2 ^ k.toNat)) ∧ Below w.heap.size w w' := by
  obtain ⟨A, c, rfl, ⟨hc, hm⟩, hx, hr⟩ := h
  obtain ⟨k, rfl⟩ := Int.eq_ofNat_of_zero_le hk0
  rcases Nat.eq_zero_or_pos n with h0 | h0
  · obtain rfl : n = 0 := h0
    have hz : limbs 0 = [] := limbs_zero
    have hu : Un w (.slice none 0 0) (0 * 2 ^ k) := by rw [Nat.zero_mul, Un, limbs_zero]; exact U.nil_ _ _ _
    have HU := Lib.hid hu
    rw [hz]
    clear hu hz hr hx hm hl hc
    go_enter Tryz.func70, Tryz.ntmps70
    go_wp2
    go_ret
    exact ⟨⟨_, rfl, HU.out⟩, Below.refl _ _⟩
  · have hlen : 0 < (limbs n).length := by rw [limbs_pos (by omega)]; simp
    obtain ⟨ad, rfl, hb, hcell⟩ := hr hlen
    have hne : (((limbs n).length : Int) == 0) = false := by rw [beq_eq_false_iff_ne]; omega
    obtain ⟨i0, hi, hz0, hz1, hz2⟩ := info_parts info46
    have hq : Hid (((k : Nat) : Int) / 32 = ((k / 32 : Nat) : Int)) := by rw [Hid]; omega
    generalize hxs : limbs n = xs at *
    have HX := Lib.hid hxs
    clear hxs hr
    have hkn : decide (((k : Nat) : Int) < 0) = false := by rw [decide_eq_false_iff_not]; omega
    go_enter Tryz.func70, Tryz.ntmps70
    go_wp2_with (at_make; refine wpList_make_full _ rfl _ _ 22 rfl w.heap.size 46 i0 (.int .u32 0) 1 Tryz.underlying22 hi hz0 hz1 _ _ _ _ (k / 32 + xs.length + 1) rfl rfl (by omega) (by omega) (by rw [hz2]; omega) (by unfold maxLen; omega) (Nat.le_refl _) ?_; intro w1 hown hgrow)
    have ho0 := Own.zeros hown
    have hB0 : Below w.heap.size w w1 := (Below.refl _ _).grown hgrow (Nat.le_refl _) (fun _ h => by cases h)
    clear hown hgrow
    go_loopw [29] (fun m wr => ∃ (i : Nat) (o : List Nat), i ≤ xs.length ∧ m = .int .i64 i ∧ Hid (ShlInv xs (k / 32) (k % 32) (k / 32 + xs.length + 1) i o) ∧ Own wr w.heap.size (.slice (some ⟨w.heap.size, 0, none⟩) o.length (k / 32 + xs.length + 1)) o ∧ Below w.heap.size w wr) (fun m _ => xs.length - (intOf m).toNat)
    case atStart => exact ⟨0, _, Nat.zero_le _, rfl, ShlInv.start _ _ _ _, ho0, hB0⟩
    case round =>
      obtain ⟨i, o, hik, rfl, HO, hown, hB⟩ := hrel
      have hoL := HO.out.len
      by_cases hlt : i < xs.length
      · have hc1 := (hB.cell (p := ad.add i) (by rw [addr_add_block]; exact hb)).trans (hcell i hlt)
        have hc2 := hown.cell (j := k / 32 + i) (by omega)
        have hc3 := hown.cell (j := k / 32 + i + 1) (by omega)
        have hf2 := hown.frozen (k / 32 + i)
        have hf3 := hown.frozen (k / 32 + i + 1)
        rw [hoL] at hown
        clear hoL
        have HF : Hid (bits .or .u32 (lb o (k / 32 + i) : Int) (((lb xs i : Nat) : Int) * 2 ^ (k % 32) % 4294967296) = ((lb o (k / 32 + i) ||| lb xs i * 2 ^ (k % 32) % 4294967296 : Nat) : Int)) :=
          u32_or_cast _ _ (lb_lt HO.out.lt _) _ (cast_shl _ _) (Nat.mod_lt _ (by decide))
        have HG : Hid (((lb xs i : Nat) : Int) / 2 ^ (32 - k % 32) = ((lb xs i / 2 ^ (32 - k % 32) : Nat) : Int)) := cast_shr _ _
        go_wp2
        go_region
        go_wp2
        rw [HF.out, HG.out]
        go_roundw
        case rel =>
          have hst := HO.out.step (Nat.mod_lt _ (by decide)) hx hlt rfl
          refine ⟨i + 1, _, by omega, by go_num, hst, ?_, ((hB.setCell (by simp) _).setCell (by simp) _).drew⟩
          have h1 := (Own.set_ (o := o) (by rw [HO.out.len]; exact hown) (k / 32 + i) (lb o (k / 32 + i) ||| lb xs i * 2 ^ (k % 32) % 4294967296))
          exact (Own.set_ h1 (k / 32 + i + 1) (lb xs i / 2 ^ (32 - k % 32))).drew
        case measure => simp [intOf]; omega
      · obtain rfl : i = xs.length := by omega
        have hu := hown.toU HO.out.lt (by omega)
        have hv := HO.out.done
        rw [← HX.out, val_limbs] at hv
        have HV := Lib.hid hv
        rw [hoL] at hu
        clear hv hoL hlt
        go_wp2_with fail
        refine (make_calls _ _ _ hu).mono ?_
        rintro e w2 ⟨⟨u, rfl, hu2⟩, rfl⟩
        have hu3 : Un wr u (n * 2 ^ ((k : Int)).toNat) := by rw [Un, Int.toNat_natCast, ← HV.out]; exact hu2
        clear hu2
        go_wp2
        go_ret
        exact ⟨⟨_, rfl, hu3⟩, hB⟩
end Go.Proofs.YtigdflfhepelaaaGreatDoor
/- walks -/
namespace Go.Proofs.YtigdflfhepelaaaGreatDoor
open Go.RowKit
set_option linter.unusedVariables false
set_option maxHeartbeats 400000
set_option maxRecDepth 100000

theorem bits_calls (w : World) (v : Value) (n : Nat) (h : Un w v n) (hl : (limbs n).length ≤ 1000000000) :
    Calls Tryz.prog 69 #[v] w fun e w' => e = .returned (.int .i64 (blen n : Nat)) ∧ w = w' := by
  obtain ⟨A, c, rfl, ⟨hc, hm⟩, hx, hr⟩ := h
  by_cases h0 : n = 0
  · subst h0
    have hz : limbs 0 = [] := limbs_zero
    rw [hz]
    clear hz hr hx hm hl hc
    have HF : Hid (blen 0 = 0) := rfl
    go_enter Tryz.func69, Tryz.ntmps69
    go_wp2
    go_ret
    exact ⟨by rw [HF.out]; rfl, rfl⟩
  · have HF := Lib.hid (blen_limbs n h0)
    have hlen : 0 < (limbs n).length := by rw [limbs_pos h0]; simp
    obtain ⟨ad, rfl, hb, hcell⟩ := hr hlen
    have hc1 := hcell ((limbs n).length - 1) (by omega)
    have hne : (((limbs n).length : Int) == 0) = false := by rw [beq_eq_false_iff_ne]; omega
    have hL := lb_lt hx ((limbs n).length - 1)
    have hB := blen_le_of_lt (k := 32) hL
    have HL := Lib.hid hL
    clear hL
    go_enter Tryz.func69, Tryz.ntmps69
    go_wp2_with (go_at_call 97; refine (len32_calls _ _ HL.out).mono ?_; rintro e w' ⟨rfl, rfl⟩)
    go_ret
    exact ⟨by rw [HF.out]; exact ret_int (by omega), rfl⟩

theorem nof_calls (w : World) (n : Nat) (hn : n < 18446744073709551616) :
    Calls Tryz.prog 60 #[.int .u64 n] w fun e w' => (∃ u, e = .returned u ∧ Un w' u n) ∧ Below w.heap.size w w' := by
  have HN := Lib.hid hn
  go_enter Tryz.func60, Tryz.ntmps60
  go_wp2_with fail
  have hn' := HN.out
  have hv : val [n % 4294967296, n / 4294967296] = n := by simp only [val]; omega
  have hu : U (w.alloc (Obj.cells #[Value.int IntKind.u32 ((n : Int) % 4294967296), Value.int IntKind.u32 ((n : Int) / 4294967296)] 46)) (.slice (some ⟨w.heap.size, 0, none⟩) 2 2) [n % 4294967296, n / 4294967296] := by
    refine ⟨_, 2, rfl, ⟨Nat.le_refl _, by simp⟩, by intro x hx; simp at hx; omega, fun _ => ⟨_, rfl, by simp, fun j hj => ?_⟩⟩
    have : j = 0 ∨ j = 1 := by simp at hj; omega
    rcases this with rfl | rfl
    · simp [lb, Addr.add]
    · simp [lb, Addr.add]
  clear hn' hn
  refine (make_calls _ _ _ hu).mono ?_
  rintro e w2 ⟨⟨u, rfl, hu2⟩, rfl⟩
  rw [hv] at hu2
  clear hv
  go_wp2
  go_ret
  exact ⟨⟨_, rfl, hu2⟩, (Below.refl _ _).alloc (Nat.le_refl _) _⟩
end Go.Proofs.YtigdflfhepelaaaGreatDoor
/- walks -/
namespace Go.Proofs.YtigdflfhepelaaaGreatDoor
open Go.RowKit
set_option linter.unusedVariables false
set_option maxHeartbeats 400000
set_option maxRecDepth 100000

theorem shr_calls (w : World) (v : Value) (n : Nat) (k : Int) (hk0 : 0 ≤ k) (hk1 : k ≤ 1000000000) (h : Un w v n) (hl : (limbs n).length ≤ 1000000000) :
    Calls Tryz.prog 75 #[v, .int .i64 k] w fun e w' => (∃ u, e = .returned u ∧ Un w' u (n / 2 ^ k.toNat)) ∧ Below w.heap.size w w' := by
  obtain ⟨A, c, rfl, ⟨hc, hm⟩, hx, hr⟩ := h
  obtain ⟨k, rfl⟩ := Int.eq_ofNat_of_zero_le hk0
  have hkn : decide (((k : Nat) : Int) < 0) = false := by rw [decide_eq_false_iff_not]; omega
  by_cases h0 : k / 32 < (limbs n).length
  · obtain ⟨ad, rfl, hb, hcell⟩ := hr (by omega)
    obtain ⟨i0, hi, hz0, hz1, hz2⟩ := info_parts info46
    generalize hxs : limbs n = xs at *
    have HX := Lib.hid hxs
    have hcap : decide (c = k / 32) = false := by rw [decide_eq_false_iff_not]; omega
    clear hxs hr
    go_enter Tryz.func75, Tryz.ntmps75
    go_wp2_with (at_make; refine wpList_make_full _ rfl _ _ 22 rfl w.heap.size 46 i0 (.int .u32 0) 1 Tryz.underlying22 hi hz0 hz1 _ _ _ _ (xs.length - k / 32) rfl rfl (by omega) (by omega) (by rw [hz2]; omega) (by unfold maxLen; omega) (Nat.le_refl _) ?_; intro w1 hown hgrow)
    have ho0 := Own.zeros hown
    have hB0 : Below w.heap.size w w1 := (Below.refl _ _).grown hgrow (Nat.le_refl _) (fun _ h => by cases h)
    have hys : Hid ((xs.drop (k / 32)).length = xs.length - k / 32) := by rw [Hid, List.length_drop]
    have hyl := Lib.hid (drop_lt (k / 32) hx)
    clear hown hgrow
    go_loopw [29] (fun m wr => ∃ (i : Nat) (o : List Nat), i ≤ xs.length - k / 32 ∧ m = .int .i64 i ∧ Hid (ShrInv (xs.drop (k / 32)) (k % 32) (xs.length - k / 32) i o) ∧ Own wr w.heap.size (.slice (some ⟨w.heap.size, 0, none⟩) o.length (xs.length - k / 32)) o ∧ Below w.heap.size w wr) (fun m _ => xs.length - k / 32 - (intOf m).toNat)
    case atStart => exact ⟨0, _, Nat.zero_le _, rfl, ShrInv.start _ _ _, ho0, hB0⟩
    case round =>
      obtain ⟨i, o, hik, rfl, HO, hown, hB⟩ := hrel
      have hoL := HO.out.len
      by_cases hlt : i < xs.length - k / 32
      · have hc1 : wr.cell? ((ad.add (k / 32)).add i) = some (.int .u32 ((lb (xs.drop (k / 32)) i : Nat) : Int)) := by
          rw [addr_add_add, lb_drop]
          exact (hB.cell (p := ad.add (k / 32 + i)) (by rw [addr_add_block]; exact hb)).trans (hcell _ (by omega))
        have hc2 := hown.cell (j := i) (by omega)
        have hf2 := hown.frozen i
        have hown' := hown
        rw [hoL] at hown
        have HG : Hid (((lb (xs.drop (k / 32)) i : Nat) : Int) / 2 ^ (k % 32) = ((lb (xs.drop (k / 32)) i / 2 ^ (k % 32) : Nat) : Int)) := cast_shr _ _
        by_cases hi0 : i = 0
        · subst hi0
          rw [addr_add_zero] at hc1
          clear hoL
          go_wp2
          rw [HG.out]
          go_roundw
          case rel =>
            have hst := HO.out.step0 (Nat.mod_lt _ (by decide)) hyl.out (by rw [hys.out]; omega) hys.out.symm
            exact ⟨1, _, by omega, by go_num, hst, Own.set_ hown' 0 _, hB.setCell (by simp) _⟩
          case measure => simp [intOf]; omega
        · have hc3 := hown'.cell (j := i - 1) (by omega)
          have hf3 := hown'.frozen (i - 1)
          have HF : Hid (bits .or .u32 (lb o (i - 1) : Int) (((lb (xs.drop (k / 32)) i : Nat) : Int) * 2 ^ (32 - k % 32) % 4294967296) = ((lb o (i - 1) ||| lb (xs.drop (k / 32)) i * 2 ^ (32 - k % 32) % 4294967296 : Nat) : Int)) :=
            u32_or_cast _ _ (lb_lt HO.out.lt _) _ (cast_shl _ _) (Nat.mod_lt _ (by decide))
          clear hoL
          go_wp2
          go_region
          go_wp2
          rw [HF.out, HG.out]
          go_roundw
          case rel =>
            have hst := HO.out.step (by omega) (Nat.mod_lt _ (by decide)) hyl.out (by rw [hys.out]; omega) hys.out.symm
            exact ⟨i + 1, _, by omega, by go_num, hst, (Own.set_ (Own.set_ hown' i _) (i - 1) _).drew, ((hB.setCell (by simp) _).setCell (by simp) _).drew⟩
          case measure => simp [intOf]; omega
      · have hu := hown.toU HO.out.lt (by omega)
        have hv := HO.out.done hx (by rw [hys.out]; omega)
        rw [← HX.out, val_limbs] at hv
        have HV := Lib.hid hv
        rw [hoL] at hu
        clear hv hoL
        go_wp2_with fail
        refine (make_calls _ _ _ hu).mono ?_
        rintro e w2 ⟨⟨u, rfl, hu2⟩, rfl⟩
        have hu3 : Un wr u (n / 2 ^ ((k : Int)).toNat) := by rw [Un, Int.toNat_natCast, ← HV.out]; exact hu2
        clear hu2
        go_wp2
        go_ret
        exact ⟨⟨_, rfl, hu3⟩, hB⟩
  · have hu : Un w (.slice none 0 0) (n / 2 ^ ((k : Int)).toNat) := by
      have := lt_pow_len n
      have h2 : 4294967296 ^ (limbs n).length ≤ 4294967296 ^ (k / 32) := Nat.pow_le_pow_right (by decide) (by omega)
      have h3 : 2 ^ (32 * (k / 32)) ≤ 2 ^ k := Nat.pow_le_pow_right (by decide) (by omega)
      rw [pow32 (k / 32)] at h2
      rw [Int.toNat_natCast, Nat.div_eq_of_lt (by omega), Un, limbs_zero]
      exact U.nil_ _ _ _
    have HU := Lib.hid hu
    clear hu
    go_enter Tryz.func75, Tryz.ntmps75
    go_wp2
    go_ret
    exact ⟨⟨_, rfl, HU.out⟩, Below.refl _ _⟩
end Go.Proofs.YtigdflfhepelaaaGreatDoor
/- slices.Backward over limbs, and nat.Cmp. -/
namespace Go.Proofs.YtigdflfhepelaaaGreatDoor
open Go.RowKit Go.Shelf
set_option linter.unusedVariables false
attribute [local go_sem] Oper.semAt_some

abbrev Ix (L : Nat) := { k : Nat // k < L }
abbrev encB (xs : List Nat) (p : Ix xs.length) : Array Value := #[.int .i64 (p.1 : Int), .int .u32 ((lb xs p.1 : Nat) : Int)]

set_option maxRecDepth 100000 in
set_option maxHeartbeats 2000000 in
theorem back1_in (l Bs : Nat) (ad : Addr) (c : Nat) (xs : List Nat) (hm : xs.length ≤ 9223372036854775807) (n₀ : Nat) (hb : ad.block < n₀) (J Jx : List (Ix xs.length) → World → Prop)
    (hY : ∀ pre x W, J pre W → pre.length < xs.length → YieldAt Fence.wide 2 Tryz.prog l (encB xs x) W fun e W' =>
      (e = .returned (.bool true) ∧ J (pre ++ [x]) W' ∧ Below n₀ W W') ∨ (e = .returned (.bool false) ∧ Jx (pre ++ [x]) W'))
    (W : World) (hBn : Bs < n₀) (hBs : W.cell? ⟨Bs, 0, none⟩ = some (.slice (some ad) xs.length c)) (hc : ∀ j, j < xs.length → W.cell? (ad.add j) = some (.int .u32 ((lb xs j : Nat) : Int))) (h0 : J [] W) :
    CallsIn Fence.wide 3 Tryz.prog 81 #[.func (.yield l) #[] #[], .pointer (some ⟨Bs, 0, none⟩)] W fun e W' => (∃ v, e = .returned v) ∧
      ((∃ ys, ys.map (·.1) = downs xs.length xs.length ∧ J ys W') ∨ (∃ pre, (∃ k, k ≤ xs.length ∧ pre.map (·.1) = downs xs.length k) ∧ Jx pre W')) := by
  refine callsIn_of_wp Tryz.func81 rfl trivial ?_ rfl
  simp only [Tryz.ntmps81, List.size_toArray, List.length_cons, List.length_nil, Nat.reduceAdd, Nat.reduceSub, Array.replicate_succ, Array.replicate_zero, List.push_toArray, List.append_toArray, List.nil_append, List.cons_append]
  gi_wp2
  gi_loopw [3] (fun i wr => ∃ (k : Nat) (pre : List (Ix xs.length)), k ≤ xs.length ∧ i = .int .i64 ((xs.length : Int) - 1 - k) ∧ Hid (pre.map (·.1) = downs xs.length k) ∧ J pre wr ∧ Below n₀ W wr)
    (fun i _ => (intOf i + 1).toNat)
  case atStart => exact ⟨0, [], Nat.zero_le _, by simp, rfl, h0, Below.refl _ _⟩
  case round =>
    obtain ⟨k, pre, hk, rfl, hp, hJs, hnx⟩ := hrel
    by_cases hlt : k < xs.length
    · have hcx := (hnx.cell (p := ad.add (xs.length - 1 - k)) (by rw [addr_add_block]; exact hb)).trans (hc (xs.length - 1 - k) (by omega))
      have hcb := (hnx.cell (p := ⟨Bs, 0, none⟩) hBn).trans hBs
      obtain ⟨fn, tmps, assign, body, hy, hR⟩ := hY pre ⟨xs.length - 1 - k, by omega⟩ wr hJs (by have := congrArg List.length hp.out; simp [downs] at this; omega)
      dsimp only [encB] at hy
      rw [show ((xs.length - 1 - k : Nat) : Int) = (xs.length : Int) - 1 - k by omega] at hy
      gi_wp2
      refine hR.mono ?_
      rintro e W3 (⟨rfl, hJ3, hk3⟩ | ⟨rfl, hJx3⟩)
      · gi_wp2
        go_roundw
        case rel => exact ⟨k + 1, _, by omega, by congr 1; push_cast; omega, by rw [Hid, List.map_append, hp.out, downs_succ]; rfl, hJ3, hnx.trans hk3⟩
        case measure => simp [intOf]; omega
      · gi_wp2
        refine bodyPost_ret (results_none rfl _ _ _) rfl ?_
        exact ⟨⟨_, rfl⟩, .inr ⟨_, ⟨k + 1, by omega, by rw [List.map_append, hp.out, downs_succ]; rfl⟩, hJx3⟩⟩
    · obtain rfl : k = xs.length := by omega
      gi_wp2
      go_end0
      exact ⟨⟨_, rfl⟩, .inl ⟨_, hp.out, hJs⟩⟩

set_option maxRecDepth 100000 in
set_option maxHeartbeats 1000000 in
theorem back1_nil_in (l Bs : Nat) (A : Option Addr) (c : Nat) {α : Type} (J : List α → World → Prop) (W : World) (hBs : W.cell? ⟨Bs, 0, none⟩ = some (.slice A 0 c)) (h0 : J [] W) :
    CallsIn Fence.wide 3 Tryz.prog 81 #[.func (.yield l) #[] #[], .pointer (some ⟨Bs, 0, none⟩)] W fun e W' => (∃ v, e = .returned v) ∧ J [] W' := by
  refine callsIn_of_wp Tryz.func81 rfl trivial ?_ rfl
  simp only [Tryz.ntmps81, List.size_toArray, List.length_cons, List.length_nil, Nat.reduceAdd, Nat.reduceSub, Array.replicate_succ, Array.replicate_zero, List.push_toArray, List.append_toArray, List.nil_append, List.cons_append]
  gi_wp2
  gi_loopw [3] (fun i wr => i = .int .i64 (-1) ∧ J [] wr) (fun _ _ => 0)
  case atStart => exact ⟨rfl, h0⟩
  case round =>
    obtain ⟨rfl, hJs⟩ := hrel
    gi_wp2
    go_end0
    exact ⟨⟨_, rfl⟩, hJs⟩

set_option maxHeartbeats 1000000 in
/-- slices.Backward: the slice is boxed; the function value has captured the box. -/
theorem back_in (a : Option Addr) (len cap : Nat) (w : World) :
    CallsIn Fence.wide 3 Tryz.prog 58 #[.slice a len cap] w fun e w' => e = .returned (.func (.func 81) #[] #[.pointer (some ⟨w.heap.size, 0, none⟩)]) ∧ w' = w.alloc (.cells #[.slice a len cap] 22) := by
  refine callsIn_of_wp Tryz.func58 rfl trivial ?_ rfl
  simp only [Tryz.ntmps58, List.size_toArray, List.length_cons, List.length_nil, Nat.reduceAdd, Nat.reduceSub, Array.replicate_succ, Array.replicate_zero, List.push_toArray, List.append_toArray, List.nil_append, List.cons_append]
  gi_wp2
  go_ret
  exact ⟨rfl, rfl⟩

/-- Its contract: all of the limbs, the last one first; or the first few of these. -/
theorem back_stops (Bs : Nat) (v : Value) (xs : List Nat) (w : World) (hBs : Bs < w.heap.size) (hc : w.cell? ⟨Bs, 0, none⟩ = some v) (hU : U w v xs) :
    SeqStopsK Fence.wide 3 Tryz.prog 81 #[.pointer (some ⟨Bs, 0, none⟩)] (encB xs) (Below w.heap.size) (fun ys => ys.map (·.1) = downs xs.length xs.length)
      (fun pre => ∃ k, k ≤ xs.length ∧ pre.map (·.1) = downs xs.length k) xs.length w := fun l J Jx W hW _ _ hY h0 => by
  have hc' := (hW.cell (p := ⟨Bs, 0, none⟩) hBs).trans hc
  obtain ⟨A, c, rfl, ⟨h1, h2⟩, hx, hr⟩ := hU
  rcases Nat.eq_zero_or_pos xs.length with h3 | h3
  · rw [h3] at hc'
    refine (back1_nil_in l Bs A c J W hc' h0).mono fun e W' ⟨he, hj⟩ => ⟨he, .inl ⟨[], by rw [h3]; rfl, hj⟩⟩
  · obtain ⟨ad, rfl, hb, hcell⟩ := hr h3
    exact back1_in l Bs ad c xs h2 w.heap.size hb J Jx hY W hBs hc' (fun j hj => (hW.cell (p := ad.add j) (by rw [addr_add_block]; exact hb)).trans (hcell j hj)) h0
end Go.Proofs.YtigdflfhepelaaaGreatDoor
/- walks -/
namespace Go.Proofs.YtigdflfhepelaaaGreatDoor
open Go.RowKit
set_option linter.unusedVariables false
set_option maxHeartbeats 400000
set_option maxRecDepth 100000

theorem cmpInt_calls (w : World) (x y : Int) :
    Calls Tryz.prog 57 #[.int .i64 x, .int .i64 y] w fun e w' => e = .returned (.int .i64 (cmpI x y)) ∧ w = w' := by
  by_cases h1 : x < y
  · have HF : Hid (cmpI x y = -1) := if_pos h1
    go_enter Tryz.func57, Tryz.ntmps57
    go_wp2
    go_ret
    exact ⟨by rw [HF.out]; rfl, rfl⟩
  · by_cases h2 : y < x
    · have HF : Hid (cmpI x y = 1) := by rw [Hid, cmpI, if_neg h1, if_pos h2]
      clear h1
      go_enter Tryz.func57, Tryz.ntmps57
      go_wp2
      go_ret
      exact ⟨by rw [HF.out]; rfl, rfl⟩
    · have HF : Hid (cmpI x y = 0) := by rw [Hid, cmpI, if_neg h1, if_neg h2]
      go_enter Tryz.func57, Tryz.ntmps57
      go_wp2
      go_ret
      exact ⟨by rw [HF.out]; rfl, rfl⟩

theorem cmpU32_calls (w : World) (x y : Int) :
    Calls Tryz.prog 59 #[.int .u32 x, .int .u32 y] w fun e w' => e = .returned (.int .i64 (cmpI x y)) ∧ w = w' := by
  by_cases h1 : x < y
  · have HF : Hid (cmpI x y = -1) := if_pos h1
    go_enter Tryz.func59, Tryz.ntmps59
    go_wp2
    go_ret
    exact ⟨by rw [HF.out]; rfl, rfl⟩
  · by_cases h2 : y < x
    · have HF : Hid (cmpI x y = 1) := by rw [Hid, cmpI, if_neg h1, if_pos h2]
      clear h1
      go_enter Tryz.func59, Tryz.ntmps59
      go_wp2
      go_ret
      exact ⟨by rw [HF.out]; rfl, rfl⟩
    · have HF : Hid (cmpI x y = 0) := by rw [Hid, cmpI, if_neg h1, if_neg h2]
      go_enter Tryz.func59, Tryz.ntmps59
      go_wp2
      go_ret
      exact ⟨by rw [HF.out]; rfl, rfl⟩

end Go.Proofs.YtigdflfhepelaaaGreatDoor
/- nat.Cmp. -/
namespace Go.Proofs.YtigdflfhepelaaaGreatDoor
open Go.RowKit Go.Shelf
set_option linter.unusedVariables false
attribute [local go_sem] Oper.semAt_some

set_option maxRecDepth 100000 in
set_option maxHeartbeats 2000000 in
theorem cmp_same (w : World) (v u : Value) (n m : Nat) (h : Un w v n) (g : Un w u m) (hl : (limbs n).length = (limbs m).length) :
    CallsIn Fence.wide 4 Tryz.prog 42 #[v, u] w fun e w' => e = .returned (.int .i64 (cmpI n m)) ∧ Below w.heap.size w w' := by
  obtain ⟨A, c, rfl, ⟨hc, hm⟩, hx, hr⟩ := id h
  obtain ⟨A2, c2, rfl, ⟨hc2, hm2⟩, hx2, hr2⟩ := id g
  have hl1 : ((((limbs n).length : Nat) : Int) != (((limbs m).length : Nat) : Int)) = false := by rw [bne_eq_false_iff_eq, hl]
  have HL := Lib.hid hl
  clear hl
  refine callsIn_of_wp_marks Tryz.func42 rfl trivial ?_ rfl
  simp only [Tryz.ntmps42, List.size_toArray, List.length_cons, List.length_nil, Nat.reduceAdd, Nat.reduceSub, Array.replicate_succ, Array.replicate_zero, List.push_toArray, List.append_toArray, List.nil_append, List.cons_append]
  gi_wp2_with (refine ⟨trivial, ?_⟩; gi_at_call 58; refine (back_in _ _ _ _).mono ?_; rintro e w' ⟨rfl, rfl⟩)
  obtain ⟨W0, hW0⟩ : ∃ W0, ((w.alloc (.cells #[.slice A2 (limbs m).length c2] 22)).alloc (.cells #[.int .i64 0] 3)).alloc (.cells #[.slice A (limbs n).length c] 22) = W0 := ⟨_, rfl⟩
  have hB0 : Below w.heap.size w W0 := by rw [← hW0]; exact (((Below.refl _ w).alloc (Nat.le_refl _) _).alloc (by simp) _).alloc (by simp; omega) _
  have hsz : W0.heap.size = w.heap.size + 1 + 1 + 1 := by rw [← hW0]; simp
  have bB : Boxed W0 w.heap.size 22 (.slice A2 (limbs m).length c2) := by rw [← hW0]; exact ((Boxed.new w 22 _).alloc _).alloc _
  have bR : Boxed W0 (w.heap.size + 1) 3 (.int .i64 0) := by
    rw [← hW0]
    have := (Boxed.new (w.alloc (.cells #[.slice A2 (limbs m).length c2] 22)) 3 (.int .i64 0)).alloc (.cells #[.slice A (limbs n).length c] 22)
    rwa [World.size_alloc] at this
  have bA : W0.cell? ⟨w.heap.size + 1 + 1, 0, none⟩ = some (.slice A (limbs n).length c) := by
    rw [← hW0]
    have := (Boxed.new ((w.alloc (.cells #[.slice A2 (limbs m).length c2] 22)).alloc (.cells #[.int .i64 0] 3)) 22 (.slice A (limbs n).length c)).cell
    rwa [World.size_alloc, World.size_alloc] at this
  rw [hW0]
  clear hW0
  refine wpIn_rangeFunc_ownG rfl (by omega) (gf := 81) (lb := #[.pointer (some ⟨w.heap.size + 1 + 1, 0, none⟩)]) rfl trivial (enters_of Tryz.func81 (by kernel_rfl) rfl)
    (back_stops (w.heap.size + 1 + 1) _ (limbs n) W0 (by omega) bA (h.below hB0)) belowK_t (belowK_b (Nat.le_refl _)) (Below.refl _ _) (fun _ => rfl)
    (fun pre W => ((∀ p ∈ pre, lb (limbs n) p.1 = lb (limbs m) p.1) ∧ W.cell? ⟨w.heap.size, 0, none⟩ = some (.slice A2 (limbs m).length c2) ∧ W.cell? ⟨w.heap.size + 1, 0, none⟩ = some (.int .i64 0) ∧ W.frozen? ⟨w.heap.size + 1, 0, none⟩ = false) ∧ Below w.heap.size w W)
    (fun c pre W => (c = .ret ∧ ∃ ini last, pre = ini ++ [last] ∧ (∀ p ∈ ini, lb (limbs n) p.1 = lb (limbs m) p.1) ∧ lb (limbs n) last.1 ≠ lb (limbs m) last.1 ∧ W.cell? ⟨w.heap.size + 1, 0, none⟩ = some (.int .i64 (cmpI (lb (limbs n) last.1) (lb (limbs m) last.1)))) ∧ Below w.heap.size w W)
    (OwnFrom.and (Own.from (fun s A B row hs hg hr => ⟨hs.1, cell_kept hs.2.1 hg hr, cell_kept hs.2.2.1 hg hr, (frozen_kept hs.2.2.1 hg hr).trans hs.2.2.2⟩) _) (ownFrom_below (Nat.le_refl _) (by omega)))
    (fun c => OwnFrom.and (Own.from (fun s A B row hs hg hr => by obtain ⟨hc, ini, last, e1, e2, e3, e4⟩ := hs; exact ⟨hc, ini, last, e1, e2, e3, cell_kept e4 hg hr⟩) _) (ownFrom_below (Nat.le_refl _) (by omega)))
    ⟨⟨by simp, bB.cell, bR.cell, bR.frozen⟩, hB0⟩
    (fun x => { tmps := #[.slice A (limbs n).length c, .slice A2 (limbs m).length c2, undef, .pointer (some ⟨w.heap.size, 0, none⟩), .pointer (some ⟨w.heap.size + 1, 0, none⟩), .int .i64 (x.1 : Int), .int .u32 ((lb (limbs n) x.1 : Nat) : Int), .slice A (limbs n).length c, .int .i64 ((limbs n).length : Nat), .slice A2 (limbs m).length c2, .int .i64 ((limbs m).length : Nat), .bool false, undef, undef, undef, undef, undef, .slice A (limbs n).length c, .func (.func 81) #[] #[.pointer (some ⟨w.heap.size + 1 + 1, 0, none⟩)], .int .i64 (x.1 : Int), .int .u32 ((lb (limbs n) x.1 : Nat) : Int), undef, undef, undef, undef, undef, undef, undef, undef, undef, undef, undef, undef], defers := [] }) ?assign ?body ?done ?stop
  case assign =>
    intro l x W K hK
    gi_wp2
    exact hK
  case body =>
    rintro l pre x W ⟨⟨hp, hcb, hcr, hfr⟩, hB⟩ _
    obtain ⟨ad2, rfl, hb2, hcell2⟩ := hr2 (by have := x.2; have := HL.out; omega)
    have hlt2 : ((x.1 : Nat) : Int) < (limbs m).length := by have := x.2; have := HL.out; omega
    have hc2 := (hB.cell (p := ad2.add x.1) (by rw [addr_add_block]; exact hb2)).trans (hcell2 x.1 (by have := x.2; have := HL.out; omega))
    by_cases he : lb (limbs n) x.1 = lb (limbs m) x.1
    · have ht : ((((lb (limbs n) x.1 : Nat)) : Int) != ((lb (limbs m) x.1 : Nat) : Int)) = false := by rw [bne_eq_false_iff_eq, he]
      have HX := Lib.hid he
      clear he
      gi_wp2
      exact ⟨KeepsFrom.refl _ _, Below.refl _ _, ⟨fun p hp' => (List.mem_append.1 hp').elim (hp p) (fun e => by simp at e; subst e; exact HX.out), hcb, hcr, hfr⟩, hB⟩
    · have ht : ((((lb (limbs n) x.1 : Nat)) : Int) != ((lb (limbs m) x.1 : Nat) : Int)) = true := by rw [bne_iff_ne]; omega
      have HX := Lib.hid he
      clear he
      gi_wp2_with (refine ⟨trivial, ?_⟩; gi_at_call 59; refine (CallsIn.inRound l (callsIn_wide.2 (cmpU32_calls _ _ _))).mono ?_; rintro e w' ⟨rfl, rfl⟩)
      exact ⟨(KeepsOthers.setCell _ _ _).from _, ⟨rfl, pre, x, rfl, hp, HX.out, World.cell?_setCell_same' _ _ _ (by rw [hcr]; rfl)⟩, hB.setCell (p := ⟨w.heap.size + 1, 0, none⟩) (by simp) _⟩
  case done =>
    rintro D ys W hD hS ⟨⟨hne, hcb, hcr, hfr⟩, hB⟩ hK
    have hnm : n = m := limbs_inj (ext_lb HL.out fun j hj => by
      have : j ∈ ys.map (·.1) := by rw [hS, mem_downs (Nat.le_refl _)]; omega
      obtain ⟨p, hp, rfl⟩ := List.mem_map.1 this
      exact hne p hp)
    have HF : Hid (cmpI n m = 0) := by rw [Hid, hnm]; exact cmpI_eq _
    clear hnm hS
    gi_wp2
    have hK' := (KeepsOthers.setCell W ⟨w.heap.size + 1, 0, none⟩ (.int .i64 0)).same D _ hK rfl
    refine ⟨by simp, .inl ⟨_, _, rfl, run_takeDeferred hK', ?_⟩⟩
    have hc5 := cell_kept (World.cell?_setCell_same' W ⟨w.heap.size + 1, 0, none⟩ (.int .i64 0) (by rw [hcr]; rfl)) (grownBy_putObj' _ D (.deferred none)) (fun r e => by cases e; exact ⟨_, hK', rfl⟩)
    refine ⟨.int .i64 0, ?_, by rw [HF.out], (hB.setCell (p := ⟨w.heap.size + 1, 0, none⟩) (by simp) _).trans (belowK_b (w := w) (Nat.le_refl _) _ D _ _ (by omega) hK' rfl rfl)⟩
    simp [results, Tryz.f42, go_sem, hc5]
  case stop =>
    rintro D cc pre W hD ⟨k, hk, hpre⟩ ⟨⟨rfl, ini, last, e1, e2, e3, hcr⟩, hB⟩ hK
    have HF : Hid (cmpI (lb (limbs n) last.1) (lb (limbs m) last.1) = cmpI n m) := cmpI_top HL.out last.2 (fun j h1 h2 => by
      subst e1
      rw [List.map_append] at hpre
      have hl3 := congrArg List.length hpre
      rw [downs_length] at hl3
      simp at hl3
      have hk1 : k = (k - 1) + 1 := by omega
      rw [hk1, downs_succ] at hpre
      obtain ⟨q1, q2⟩ := List.append_inj' hpre rfl
      simp at q2
      have : j ∈ ini.map (·.1) := by rw [q1, mem_downs (by omega)]; omega
      obtain ⟨p, hp, rfl⟩ := List.mem_map.1 this
      exact e2 p hp) e3
    clear e1 e2 e3 hpre
    gi_wp2
    refine ⟨by simp, .inl ⟨_, _, rfl, run_takeDeferred hK, ?_⟩⟩
    have hc5 := cell_kept hcr (grownBy_putObj' _ D (.deferred none)) (fun r e => by cases e; exact ⟨_, hK, rfl⟩)
    refine ⟨.int .i64 (cmpI n m), ?_, rfl, hB.trans (belowK_b (w := w) (Nat.le_refl _) W D _ _ (by omega) hK rfl rfl)⟩
    rw [HF.out] at hc5
    simp [results, Tryz.f42, go_sem, hc5]

set_option maxRecDepth 100000 in
set_option maxHeartbeats 1000000 in
theorem cmp_calls (w : World) (v u : Value) (n m : Nat) (h : Un w v n) (g : Un w u m) :
    Calls Tryz.prog 42 #[v, u] w fun e w' => e = .returned (.int .i64 (cmpI n m)) ∧ Below w.heap.size w w' := by
  by_cases hl : (limbs n).length = (limbs m).length
  · exact callsIn_wide.1 (cmp_same w v u n m h g hl)
  · obtain ⟨A, c, rfl, ⟨hc, hm⟩, hx, hr⟩ := h
    obtain ⟨A2, c2, rfl, ⟨hc2, hm2⟩, hx2, hr2⟩ := g
    clear hr hr2
    have hl1 : ((((limbs n).length : Nat) : Int) != (((limbs m).length : Nat) : Int)) = true := by rw [bne_iff_ne]; omega
    have HF := Lib.hid (cmpI_len hl)
    clear hl
    go_enter Tryz.func42, Tryz.ntmps42
    go_wp2_with (go_at_call 57; refine (cmpInt_calls _ _ _).mono ?_; rintro e w' ⟨rfl, rfl⟩)
    refine bodyPost_ret (v := .int .i64 (cmpI (limbs n).length (limbs m).length)) (by simp [results, Tryz.f42, go_sem]) rfl ⟨by rw [HF.out], ((Below.refl _ w).alloc (Nat.le_refl _) _).alloc (by simp) _⟩
end Go.Proofs.YtigdflfhepelaaaGreatDoor
/- Sums and differences, limb by limb: plain lists and naturals. -/
namespace Go.Proofs.YtigdflfhepelaaaGreatDoor

/-- Two limbs. -/
abbrev P32 := { p : Nat × Nat // p.1 < 4294967296 ∧ p.2 < 4294967296 }

/-- The limbs of two rows, place by place, as many as the first one has. -/
def pairsL (xs ys : List Nat) (k : Nat) : List (Nat × Nat) := (List.range k).map fun j => (lb xs j, lb ys j)
theorem pairsL_succ (xs ys : List Nat) (k : Nat) : pairsL xs ys (k + 1) = pairsL xs ys k ++ [(lb xs k, lb ys k)] := by simp [pairsL, List.range_succ]
theorem pairsL_length (xs ys : List Nat) (k : Nat) : (pairsL xs ys k).length = k := by simp [pairsL]

def firsts (l : List P32) : List Nat := l.map (·.1.1)
def seconds (l : List P32) : List Nat := l.map (·.1.2)

theorem range_lb (xs : List Nat) (L : Nat) (h : xs.length ≤ L) : val ((List.range L).map fun j => lb xs j) = val xs := by
  rw [← val_take ((List.range L).map fun j => lb xs j) xs.length]
  · congr 1
    apply ext_lb
    · simp; omega
    · intro j hj
      simp at hj
      rw [lb_take (by omega)]
      simp [lb, show j < L by omega]
  · intro j h1 h2
    simp at h2
    simp [h2, lb_out h1]

theorem firsts_all {l : List P32} {xs ys : List Nat} (h : l.map (·.1) = pairsL xs ys xs.length) : val (firsts l) = val xs := by
  have : firsts l = (List.range xs.length).map fun j => lb xs j := by
    have := congrArg (List.map Prod.fst) h
    simpa [firsts, pairsL, List.map_map, Function.comp_def] using this
  rw [this, range_lb _ _ (Nat.le_refl _)]
theorem seconds_all {l : List P32} {xs ys : List Nat} (h : l.map (·.1) = pairsL xs ys xs.length) (hl : ys.length ≤ xs.length) : val (seconds l) = val ys := by
  have : seconds l = (List.range xs.length).map fun j => lb ys j := by
    have := congrArg (List.map Prod.snd) h
    simpa [seconds, pairsL, List.map_map, Function.comp_def] using this
  rw [this, range_lb _ _ hl]

/-- The limbs of a sum so far, and what is carried. -/
structure AddInv (pre : List P32) (o : List Nat) (c : Nat) : Prop where
  len : o.length = pre.length
  lt : ∀ x ∈ o, x < 4294967296
  carry : c ≤ 1
  val_eq : val o + c * 4294967296 ^ pre.length = val (firsts pre) + val (seconds pre)

theorem AddInv.start : AddInv [] [] 0 := ⟨rfl, by simp, by omega, by simp [firsts, seconds, val]⟩

theorem AddInv.step {pre : List P32} {o : List Nat} {c : Nat} (h : AddInv pre o c) (p : P32) :
    AddInv (pre ++ [p]) (o ++ [(p.1.1 + p.1.2 + c) % 4294967296]) ((p.1.1 + p.1.2 + c) / 4294967296) := by
  have h1 := p.2.1
  have h2 := p.2.2
  have h3 := h.carry
  refine ⟨by simp [h.len], snoc_lt h.lt (Nat.mod_lt _ (by decide)), by omega, ?_⟩
  have e1 : firsts (pre ++ [p]) = firsts pre ++ [p.1.1] := by simp [firsts]
  have e2 : seconds (pre ++ [p]) = seconds pre ++ [p.1.2] := by simp [seconds]
  have l1 : (firsts pre).length = pre.length := by simp [firsts]
  have l2 : (seconds pre).length = pre.length := by simp [seconds]
  rw [e1, e2, val_append, val_append, val_append, l1, l2, h.len]
  simp only [val, Nat.mul_zero, Nat.add_zero, List.length_append, List.length_singleton, Nat.pow_succ]
  have e := h.val_eq
  generalize 4294967296 ^ pre.length = B at *
  have e3 : (p.1.1 + p.1.2 + c) = (p.1.1 + p.1.2 + c) % 4294967296 + (p.1.1 + p.1.2 + c) / 4294967296 * 4294967296 := by omega
  have e4 : (p.1.1 + p.1.2 + c) * B = (p.1.1 + p.1.2 + c) % 4294967296 * B + (p.1.1 + p.1.2 + c) / 4294967296 * 4294967296 * B := by
    conv => lhs; rw [e3]
    rw [Nat.add_mul]
  rw [Nat.add_mul, Nat.add_mul] at e4
  have e5 : (p.1.1 + p.1.2 + c) / 4294967296 * (B * 4294967296) = (p.1.1 + p.1.2 + c) / 4294967296 * 4294967296 * B := by
    rw [Nat.mul_comm B 4294967296, ← Nat.mul_assoc]
  rw [e5, Nat.mul_comm B, Nat.mul_comm B, Nat.mul_comm B]
  omega

theorem AddInv.done {pre : List P32} {o : List Nat} {c : Nat} (h : AddInv pre o c) {xs ys : List Nat} (hp : pre.map (·.1) = pairsL xs ys xs.length) (hl : ys.length ≤ xs.length) :
    val (o ++ [c]) = val xs + val ys := by
  rw [val_append, ← firsts_all hp, ← seconds_all hp hl, ← h.val_eq, h.len]
  simp only [val, Nat.mul_zero, Nat.add_zero]
  rw [Nat.mul_comm c]

/-- The limbs of a difference so far, and what is borrowed. -/
structure SubInv (pre : List P32) (o : List Nat) (c : Nat) : Prop where
  len : o.length = pre.length
  lt : ∀ x ∈ o, x < 4294967296
  carry : c ≤ 1
  val_eq : val o + val (seconds pre) = val (firsts pre) + c * 4294967296 ^ pre.length

theorem SubInv.start : SubInv [] [] 0 := ⟨rfl, by simp, by omega, by simp [firsts, seconds, val]⟩

def subD (x y c : Nat) : Nat := (x + 4294967296 + 4294967296 - y - c) % 4294967296
def subC (x y c : Nat) : Nat := if x < y + c then 1 else 0

theorem sub_step (x y c : Nat) (h1 : x < 4294967296) (h2 : y < 4294967296) (h3 : c ≤ 1) : subD x y c + y + c = x + subC x y c * 4294967296 := by
  unfold subD subC
  split
  · rename_i h
    have e : (x + 4294967296 + 4294967296 - y - c) % 4294967296 = x + 4294967296 - y - c := by
      rw [show x + 4294967296 + 4294967296 - y - c = (x + 4294967296 - y - c) + 4294967296 by omega, Nat.add_mod_right, Nat.mod_eq_of_lt (by omega)]
    rw [e]; omega
  · rename_i h
    have e : (x + 4294967296 + 4294967296 - y - c) % 4294967296 = x - y - c := by
      rw [show x + 4294967296 + 4294967296 - y - c = (x - y - c) + 4294967296 + 4294967296 by omega, Nat.add_mod_right, Nat.add_mod_right, Nat.mod_eq_of_lt (by omega)]
    rw [e]; omega

theorem subD_lt (x y c : Nat) : subD x y c < 4294967296 := by
  unfold subD
  exact Nat.mod_lt _ (by decide)
theorem subC_le (x y c : Nat) : subC x y c ≤ 1 := by unfold subC; split <;> omega

theorem val_one (x : Nat) : val [x] = x := rfl
theorem SubInv.step {pre : List P32} {o : List Nat} {c : Nat} (h : SubInv pre o c) (p : P32) :
    SubInv (pre ++ [p]) (o ++ [subD p.1.1 p.1.2 c]) (subC p.1.1 p.1.2 c) := by
  have h1 := p.2.1
  have h2 := p.2.2
  have h3 := h.carry
  have hs := sub_step p.1.1 p.1.2 c h1 h2 h3
  have k1 := subD_lt p.1.1 p.1.2 c
  have k2 := subC_le p.1.1 p.1.2 c
  generalize subD p.1.1 p.1.2 c = d at *
  generalize subC p.1.1 p.1.2 c = f at *
  refine ⟨by simp [h.len], snoc_lt h.lt k1, k2, ?_⟩
  have e1 : firsts (pre ++ [p]) = firsts pre ++ [p.1.1] := by simp [firsts]
  have e2 : seconds (pre ++ [p]) = seconds pre ++ [p.1.2] := by simp [seconds]
  have l1 : (firsts pre).length = pre.length := by simp [firsts]
  have l2 : (seconds pre).length = pre.length := by simp [seconds]
  rw [e1, e2, val_append, val_append, val_append, l1, l2, h.len, val_one, val_one, val_one, List.length_append, List.length_singleton, Nat.pow_succ]
  have e := h.val_eq
  generalize 4294967296 ^ pre.length = B at *
  have e4 : (d + p.1.2 + c) * B = (p.1.1 + f * 4294967296) * B := by rw [hs]
  rw [Nat.add_mul, Nat.add_mul, Nat.add_mul] at e4
  have e5 : f * (B * 4294967296) = f * 4294967296 * B := by
    rw [Nat.mul_comm B 4294967296, ← Nat.mul_assoc]
  rw [e5, Nat.mul_comm B, Nat.mul_comm B, Nat.mul_comm B]
  omega

theorem SubInv.done {pre : List P32} {o : List Nat} {c : Nat} (h : SubInv pre o c) {xs ys : List Nat} (hp : pre.map (·.1) = pairsL xs ys xs.length) (hl : ys.length ≤ xs.length) (hge : val ys ≤ val xs) :
    val o = val xs - val ys := by
  have e := h.val_eq
  rw [firsts_all hp, seconds_all hp hl] at e
  have hlt := val_lt o h.lt
  rw [h.len] at hlt
  have hc := h.carry
  generalize 4294967296 ^ pre.length = B at *
  have : c = 0 ∨ c = 1 := by omega
  rcases this with rfl | rfl <;> omega
end Go.Proofs.YtigdflfhepelaaaGreatDoor
/- The closures of nat.Add and nat.Sub. -/
namespace Go.Proofs.YtigdflfhepelaaaGreatDoor
open Go.RowKit Go.Shelf
set_option linter.unusedVariables false
set_option maxHeartbeats 400000
set_option maxRecDepth 100000

theorem add32_calls (w : World) (x y c : Nat) (hx : x < 4294967296) (hy : y < 4294967296) (hc : c ≤ 1) :
    Calls Tryz.prog 84 #[.int .u32 x, .int .u32 y, .int .u32 c] w fun e w' => e = .returned (.tuple #[.int .u32 ((x + y + c) % 4294967296 : Nat), .int .u32 ((x + y + c) / 4294967296 : Nat)]) ∧ w = w' := by
  have h1 : ((x : Nat) : Int) < 4294967296 := by omega
  have h2 : ((y : Nat) : Int) < 4294967296 := by omega
  have h3 : ((c : Nat) : Int) ≤ 1 := by omega
  clear hx hy hc
  go_enter Tryz.func84, Tryz.ntmps84
  go_wp2
  go_ret2
  exact ⟨by rw [Int.natCast_emod, Int.natCast_ediv, Int.natCast_add, Int.natCast_add]; rfl, rfl⟩

theorem top_bit (n : Nat) (h : n < 4294967296) : n / 2147483648 = if n.testBit 31 then 1 else 0 := by
  have e : n.testBit 31 = decide (2147483648 ≤ n) := by
    rw [Nat.testBit_eq_decide_div_mod_eq]
    have h2 : n / 2 ^ 31 < 2 := by rw [Nat.div_lt_iff_lt_mul (by decide)]; exact h
    rw [Nat.mod_eq_of_lt h2, Bool.eq_iff_iff, decide_eq_true_iff, decide_eq_true_iff]
    simp only [Nat.reducePow]
    constructor <;> intro g <;> omega
  rw [e]
  by_cases hn : 2147483648 ≤ n
  · rw [decide_eq_true hn, if_pos rfl]; omega
  · rw [decide_eq_false hn, if_neg (by decide)]; omega

theorem test31 (n : Nat) (h : n < 4294967296) : n.testBit 31 = decide (2147483648 ≤ n) := by
  rw [Nat.testBit_eq_decide_div_mod_eq]
  have h2 : n / 2 ^ 31 < 2 := by rw [Nat.div_lt_iff_lt_mul (by decide)]; exact h
  rw [Nat.mod_eq_of_lt h2, Bool.eq_iff_iff, decide_eq_true_iff, decide_eq_true_iff]
  simp only [Nat.reducePow]
  constructor <;> intro g <;> omega

theorem borrow_nat (x y c : Nat) (hx : x < 4294967296) (hy : y < 4294967296) (hc : c ≤ 1) :
    (((4294967295 ^^^ x) &&& y) ||| ((4294967295 ^^^ (x ^^^ y)) &&& subD x y c)) / 2147483648 = subC x y c := by
  have hd := subD_lt x y c
  have hs := sub_step x y c hx hy hc
  have p32 : (4294967296 : Nat) = 2 ^ 32 := rfl
  have b1 : ((4294967295 ^^^ x) &&& y) < 4294967296 := Nat.lt_of_le_of_lt Nat.and_le_right hy
  have b2 : ((4294967295 ^^^ (x ^^^ y)) &&& subD x y c) < 4294967296 := Nat.lt_of_le_of_lt Nat.and_le_right hd
  have b3 : (((4294967295 ^^^ x) &&& y) ||| ((4294967295 ^^^ (x ^^^ y)) &&& subD x y c)) < 4294967296 := by
    rw [p32] at b1 b2 ⊢; exact Nat.or_lt_two_pow b1 b2
  rw [top_bit _ b3]
  have hc2 := subC_le x y c
  have t : (4294967295 : Nat).testBit 31 = true := by decide
  rw [Nat.testBit_or, Nat.testBit_and, Nat.testBit_and, Nat.testBit_xor, Nat.testBit_xor, Nat.testBit_xor, t, test31 x hx, test31 y hy, test31 _ hd]
  generalize subD x y c = d at *
  have hC : subC x y c = 0 ∧ y + c ≤ x ∨ subC x y c = 1 ∧ x < y + c := by
    unfold subC
    split
    · right; omega
    · left; omega
  generalize subC x y c = f at *
  by_cases g1 : 2147483648 ≤ x <;> by_cases g2 : 2147483648 ≤ y <;> by_cases g3 : 2147483648 ≤ d <;> simp [g1, g2, g3] <;> omega

theorem sub_cast (x y c : Nat) (hx : x < 4294967296) (hy : y < 4294967296) (hc : c ≤ 1) : (((x : Nat) : Int) - (y : Nat) - (c : Nat)) % 4294967296 = ((subD x y c : Nat) : Int) := by
  have hs := sub_step x y c hx hy hc
  have hd := subD_lt x y c
  have hc2 := subC_le x y c
  generalize subD x y c = d at *
  generalize subC x y c = f at *
  omega

theorem borrow_cast (x y c : Nat) (hx : x < 4294967296) (hy : y < 4294967296) (hc : c ≤ 1) :
    bits .or .u32 (bits .and .u32 (bits .xor .u32 IntKind.u32.max ((x : Nat) : Int)) ((y : Nat) : Int)) (bits .and .u32 (bits .xor .u32 IntKind.u32.max (bits .xor .u32 ((x : Nat) : Int) ((y : Nat) : Int))) ((((x : Nat) : Int) - (y : Nat) - (c : Nat)) % 4294967296)) / 2147483648 = ((subC x y c : Nat) : Int) := by
  have hd := subD_lt x y c
  have p32 : (4294967296 : Nat) = 2 ^ 32 := rfl
  have b0 : (x ^^^ y) < 4294967296 := by rw [p32] at hx hy ⊢; exact Nat.xor_lt_two_pow hx hy
  have b4 : (4294967295 ^^^ x) < 4294967296 := by rw [p32] at hx ⊢; exact Nat.xor_lt_two_pow (by decide) hx
  have b5 : (4294967295 ^^^ (x ^^^ y)) < 4294967296 := by rw [p32] at b0 ⊢; exact Nat.xor_lt_two_pow (by decide) b0
  have b1 : ((4294967295 ^^^ x) &&& y) < 4294967296 := Nat.lt_of_le_of_lt Nat.and_le_right hy
  have b2 : ((4294967295 ^^^ (x ^^^ y)) &&& subD x y c) < 4294967296 := Nat.lt_of_le_of_lt Nat.and_le_right hd
  have em : IntKind.u32.max = ((4294967295 : Nat) : Int) := by decide
  rw [sub_cast x y c hx hy hc, em, u32_xor_nat _ _ (by decide) hx, u32_and_nat _ _ b4 hy, u32_xor_nat _ _ hx hy, u32_xor_nat _ _ (by decide) b0, u32_and_nat _ _ b5 hd, u32_or_nat _ _ b1 b2, ← borrow_nat x y c hx hy hc, Int.natCast_ediv]
  rfl

theorem sub32_calls (w : World) (x y c : Nat) (hx : x < 4294967296) (hy : y < 4294967296) (hc : c ≤ 1) :
    Calls Tryz.prog 141 #[.int .u32 x, .int .u32 y, .int .u32 c] w fun e w' => e = .returned (.tuple #[.int .u32 (subD x y c : Nat), .int .u32 (subC x y c : Nat)]) ∧ w = w' := by
  have H1 := Lib.hid (sub_cast x y c hx hy hc)
  have H2 := Lib.hid (borrow_cast x y c hx hy hc)
  clear hx hy hc
  go_enter Tryz.func141, Tryz.ntmps141
  go_wp2
  go_ret2
  exact ⟨by rw [← H1.out, ← H2.out]; rfl, rfl⟩

theorem adder1_calls (w : World) (x y c b : Nat) (hx : x < 4294967296) (hy : y < 4294967296) (hc : c ≤ 1) (hcell : w.cell? ⟨b, 0, none⟩ = some (.int .u32 c)) (hf : w.frozen? ⟨b, 0, none⟩ = false) :
    Calls Tryz.prog 83 #[.int .u32 x, .int .u32 y, .pointer (some ⟨b, 0, none⟩)] w fun e w' => e = .returned (.int .u32 ((x + y + c) % 4294967296 : Nat)) ∧ w' = w.setCell ⟨b, 0, none⟩ (.int .u32 ((x + y + c) / 4294967296 : Nat)) := by
  have H1 := Lib.hid hx
  have H2 := Lib.hid hy
  have H3 := Lib.hid hc
  clear hx hy hc
  go_enter Tryz.func83, Tryz.ntmps83
  go_wp2_with (go_at_call 84; refine (add32_calls _ x y c H1.out H2.out H3.out).mono ?_; rintro e w' ⟨rfl, rfl⟩)
  go_ret
  exact ⟨by rw [Int.natCast_emod, Int.natCast_add, Int.natCast_add]; rfl, by rw [Int.natCast_ediv, Int.natCast_add, Int.natCast_add]; rfl⟩

theorem taker1_calls (w : World) (x y c b : Nat) (hx : x < 4294967296) (hy : y < 4294967296) (hc : c ≤ 1) (hcell : w.cell? ⟨b, 0, none⟩ = some (.int .u32 c)) (hf : w.frozen? ⟨b, 0, none⟩ = false) :
    Calls Tryz.prog 140 #[.int .u32 x, .int .u32 y, .pointer (some ⟨b, 0, none⟩)] w fun e w' => e = .returned (.int .u32 (subD x y c : Nat)) ∧ w' = w.setCell ⟨b, 0, none⟩ (.int .u32 (subC x y c : Nat)) := by
  have H1 := Lib.hid hx
  have H2 := Lib.hid hy
  have H3 := Lib.hid hc
  clear hx hy hc
  go_enter Tryz.func140, Tryz.ntmps140
  go_wp2_with (go_at_call 141; refine (sub32_calls _ x y c H1.out H2.out H3.out).mono ?_; rintro e w' ⟨rfl, rfl⟩)
  go_ret
  exact ⟨rfl, rfl⟩

theorem adder_calls (w : World) : Calls Tryz.prog 61 #[] w fun e w' => e = .returned (.func (.func 83) #[] #[.pointer (some ⟨w.heap.size, 0, none⟩)]) ∧ w' = w.alloc (.cells #[.int .u32 0] 46) := by
  go_enter Tryz.func61, Tryz.ntmps61
  go_wp2
  go_ret
  exact ⟨rfl, rfl⟩
theorem taker_calls (w : World) : Calls Tryz.prog 114 #[] w fun e w' => e = .returned (.func (.func 140) #[] #[.pointer (some ⟨w.heap.size, 0, none⟩)]) ∧ w' = w.alloc (.cells #[.int .u32 0] 46) := by
  go_enter Tryz.func114, Tryz.ntmps114
  go_wp2
  go_ret
  exact ⟨rfl, rfl⟩
theorem pairs_calls (w : World) (a b : Option Addr) (l l' c c' : Nat) :
    Calls Tryz.prog 62 #[.slice a l c, .slice b l' c'] w fun e w' => e = .returned (.func (.func 85) #[] #[.pointer (some ⟨w.heap.size + 1, 0, none⟩), .pointer (some ⟨w.heap.size, 0, none⟩)]) ∧ w' = (w.alloc (.cells #[.slice a l c] 22)).alloc (.cells #[.slice b l' c'] 22) := by
  go_enter Tryz.func62, Tryz.ntmps62
  go_wp2
  go_ret
  exact ⟨rfl, rfl⟩
end Go.Proofs.YtigdflfhepelaaaGreatDoor
/- The iterator of nat.Add and nat.Sub: limbs place by place. -/
namespace Go.Proofs.YtigdflfhepelaaaGreatDoor
open Go.RowKit Go.Shelf
set_option linter.unusedVariables false
attribute [local go_sem] Oper.semAt_some

abbrev encP (p : P32) : Array Value := #[.int .u32 (p.1.1 : Int), .int .u32 (p.1.2 : Int)]

def mkP {xs ys : List Nat} (hx : ∀ x ∈ xs, x < 4294967296) (hy : ∀ x ∈ ys, x < 4294967296) (j : Nat) : P32 := ⟨(lb xs j, lb ys j), lb_lt hx j, lb_lt hy j⟩

/-- What a round keeps: whatever lay below n₀, and two boxes. -/
structure KpP (n₀ Ba Bb : Nat) (W W' : World) : Prop where
  bel : Below n₀ W W'
  ba : W'.heap[Ba]? = W.heap[Ba]?
  bb : W'.heap[Bb]? = W.heap[Bb]?
theorem KpP.refl (n₀ Ba Bb : Nat) (W : World) : KpP n₀ Ba Bb W W := ⟨Below.refl _ _, rfl, rfl⟩
theorem KpP.trans {n₀ Ba Bb : Nat} {A B C : World} (h : KpP n₀ Ba Bb A B) (k : KpP n₀ Ba Bb B C) : KpP n₀ Ba Bb A C := ⟨h.bel.trans k.bel, k.ba.trans h.ba, k.bb.trans h.bb⟩
theorem kpP_b {n₀ Ba Bb : Nat} {w : World} (hn : n₀ ≤ w.heap.size) (ha : Ba < w.heap.size) (hb : Bb < w.heap.size) (W : World) (l : Nat) (o o' : Obj) (hl : w.heap.size ≤ l) (h : W.heap[l]? = some o) (h1 : o.isCells = false) (h2 : o.isWalk = false) : KpP n₀ Ba Bb W (W.putObj l o') := by
  have hg := grownBy_putObj' W l o'
  have hlt := (Array.getElem?_eq_some_iff.1 h).1
  exact ⟨belowK_b hn W l o o' hl h h1 h2, hg.block Ba (by omega) (fun e => by injection e with e; omega), hg.block Bb (by omega) (fun e => by injection e with e; omega)⟩

set_option maxRecDepth 100000 in
set_option maxHeartbeats 4000000 in
theorem pairs1_in (l Ba Bb : Nat) (A A2 : Option Addr) (c c2 : Nat) (xs ys : List Nat) (hle : ys.length ≤ xs.length) (n₀ : Nat) (W : World)
    (hUa : U W (.slice A xs.length c) xs) (hUb : U W (.slice A2 ys.length c2) ys) (hba : ∀ ad, A = some ad → 0 < xs.length → ad.block < n₀) (hbb : ∀ ad, A2 = some ad → 0 < ys.length → ad.block < n₀) (J Jx : List P32 → World → Prop)
    (hY : ∀ pre x W, J pre W → pre.length < xs.length → YieldAt Fence.wide 2 Tryz.prog l (encP x) W fun e W' =>
      (e = .returned (.bool true) ∧ J (pre ++ [x]) W' ∧ KpP n₀ Ba Bb W W') ∨ (e = .returned (.bool false) ∧ Jx (pre ++ [x]) W'))
    (hca : W.cell? ⟨Ba, 0, none⟩ = some (.slice A xs.length c)) (hcb : W.cell? ⟨Bb, 0, none⟩ = some (.slice A2 ys.length c2)) (h0 : J [] W) :
    CallsIn Fence.wide 3 Tryz.prog 85 #[.func (.yield l) #[] #[], .pointer (some ⟨Bb, 0, none⟩), .pointer (some ⟨Ba, 0, none⟩)] W fun e W' => (∃ v, e = .returned v) ∧
      ((∃ l, l.map (·.1) = pairsL xs ys xs.length ∧ J l W') ∨ (∃ pre, True ∧ Jx pre W')) := by
  obtain ⟨_, _, hva, ⟨h1, h2⟩, hx, hr⟩ := hUa
  injection hva with e1 _ e3
  subst e1 e3
  obtain ⟨_, _, hvb, ⟨h3, h4⟩, hy, hr2⟩ := hUb
  injection hvb with e1 _ e3
  subst e1 e3
  refine callsIn_of_wp Tryz.func85 rfl trivial ?_ rfl
  simp only [Tryz.ntmps85, List.size_toArray, List.length_cons, List.length_nil, Nat.reduceAdd, Nat.reduceSub, Array.replicate_succ, Array.replicate_zero, List.push_toArray, List.append_toArray, List.nil_append, List.cons_append]
  gi_wp2
  gi_loopw [10] (fun i wr => ∃ (k : Nat) (pre : List P32), k ≤ ys.length ∧ i = .int .i64 (k : Int) ∧ Hid (pre.map (·.1) = pairsL xs ys k) ∧ J pre wr ∧ KpP n₀ Ba Bb W wr)
    (fun i _ => ys.length - (intOf i).toNat)
  case atStart => exact ⟨0, [], Nat.zero_le _, rfl, rfl, h0, KpP.refl _ _ _ _⟩
  case round =>
    obtain ⟨k, pre, hk, rfl, hp, hJs, hnx⟩ := hrel
    have hca' := (World.cell?_of_block (w := W) (a := ⟨Ba, 0, none⟩) hnx.ba).trans hca
    have hcb' := (World.cell?_of_block (w := W) (a := ⟨Bb, 0, none⟩) hnx.bb).trans hcb
    by_cases hlt : k < ys.length
    · obtain ⟨ad, rfl, hb, hcell⟩ := hr (by omega)
      obtain ⟨ad2, rfl, hb2, hcell2⟩ := hr2 (by omega)
      have hc1 := (hnx.bel.cell (p := ad.add k) (by rw [addr_add_block]; exact hba ad rfl (by omega))).trans (hcell k (by omega))
      have hc2 := (hnx.bel.cell (p := ad2.add k) (by rw [addr_add_block]; exact hbb ad2 rfl (by omega))).trans (hcell2 k hlt)
      have hpl : pre.length = k := by have := congrArg List.length hp.out; simpa [pairsL] using this
      obtain ⟨fn, tmps, assign, body, hy1, hR⟩ := hY pre (mkP hx hy k) wr hJs (by omega)
      dsimp only [encP, mkP] at hy1
      have HP := Lib.hid hpl
      have hkx : ((k : Nat) : Int) < xs.length := by omega
      clear hpl
      gi_wp2
      refine hR.mono ?_
      rintro e W3 (⟨rfl, hJ3, hk3⟩ | ⟨rfl, hJx3⟩)
      · gi_wp2
        go_roundw
        case rel => exact ⟨k + 1, _, by omega, by go_num, by rw [Hid, List.map_append, hp.out, pairsL_succ]; rfl, hJ3, hnx.trans hk3⟩
        case measure => simp [intOf]; omega
      · gi_wp2
        refine bodyPost_ret (results_none rfl _ _ _) rfl ?_
        exact ⟨⟨_, rfl⟩, .inr ⟨_, trivial, hJx3⟩⟩
    · obtain rfl : k = ys.length := by omega
      rcases Nat.lt_or_ge ys.length xs.length with hl2 | hl2
      · obtain ⟨ad, rfl, hb, hcell⟩ := hr (by omega)
        have hcne : ¬ c = ys.length := by omega
        gi_wp2
        gi_loopw [29] (fun i wr => ∃ (k : Nat) (pre : List P32), k ≤ xs.length - ys.length ∧ i = .int .i64 (k : Int) ∧ Hid (pre.map (·.1) = pairsL xs ys (ys.length + k)) ∧ J pre wr ∧ KpP n₀ Ba Bb W wr)
          (fun i _ => xs.length - ys.length - (intOf i).toNat)
        case atStart => exact ⟨0, pre, Nat.zero_le _, rfl, hp, hJs, hnx⟩
        case round =>
          clear hp hJs hnx hca' hcb' pre
          obtain ⟨k, pre, hk, rfl, hp, hJs, hnx⟩ := hrel
          by_cases hlt : k < xs.length - ys.length
          · have hc1 : wr.cell? ((ad.add ys.length).add k) = some (.int .u32 ((lb xs (ys.length + k) : Nat) : Int)) := by
              rw [addr_add_add]
              exact (hnx.bel.cell (p := ad.add (ys.length + k)) (by rw [addr_add_block]; exact hba ad rfl (by omega))).trans (hcell _ (by omega))
            have hpl : pre.length = ys.length + k := by have := congrArg List.length hp.out; simpa [pairsL] using this
            obtain ⟨fn, tmps, assign, body, hy1, hR⟩ := hY pre (mkP hx hy (ys.length + k)) wr hJs (by omega)
            dsimp only [encP, mkP] at hy1
            rw [lb_out (show ys.length ≤ ys.length + k by omega), show (((0 : Nat)) : Int) = 0 from rfl] at hy1
            have HP := Lib.hid hpl
            clear hpl
            by_cases hk0 : k = 0
            · subst hk0
              rw [addr_add_zero, Nat.add_zero] at hc1
              rw [Nat.add_zero] at hy1
              gi_wp2
              refine hR.mono ?_
              rintro e W3 (⟨rfl, hJ3, hk3⟩ | ⟨rfl, hJx3⟩)
              · gi_wp2
                go_roundw
                case rel => exact ⟨1, _, by omega, by go_num, by rw [Hid, List.map_append, hp.out, pairsL_succ]; rfl, hJ3, hnx.trans hk3⟩
                case measure => simp [intOf]; omega
              · gi_wp2
                refine bodyPost_ret (results_none rfl _ _ _) rfl ?_
                exact ⟨⟨_, rfl⟩, .inr ⟨_, trivial, hJx3⟩⟩
            · gi_wp2
              refine hR.mono ?_
              rintro e W3 (⟨rfl, hJ3, hk3⟩ | ⟨rfl, hJx3⟩)
              · gi_wp2
                go_roundw
                case rel => exact ⟨k + 1, _, by omega, by go_num, by rw [Hid, List.map_append, hp.out, ← Nat.add_assoc, pairsL_succ]; rfl, hJ3, hnx.trans hk3⟩
                case measure => simp [intOf]; omega
              · gi_wp2
                refine bodyPost_ret (results_none rfl _ _ _) rfl ?_
                exact ⟨⟨_, rfl⟩, .inr ⟨_, trivial, hJx3⟩⟩
          · have HP : Hid (pre.map (·.1) = pairsL xs ys xs.length) := by rw [Hid, hp.out, show ys.length + k = xs.length by omega]
            gi_wp2
            go_end0
            exact ⟨⟨_, rfl⟩, .inl ⟨_, HP.out, hJs⟩⟩
      · have HP : Hid (pre.map (·.1) = pairsL xs ys xs.length) := by rw [Hid, hp.out, show ys.length = xs.length by omega]
        have hz : xs.length - ys.length = 0 := by omega
        have hxy : xs.length = ys.length := by omega
        have HJ := Lib.hid hJs
        clear hJs hp
        rw [hxy] at hca'
        clear hxy hz
        gi_wp2
        all_goals
          gi_loopw [29] (fun i wr => i = .int .i64 0 ∧ J pre wr) (fun _ _ => 0)
          case atStart => exact ⟨rfl, HJ.out⟩
          case round =>
            obtain ⟨rfl, hJs⟩ := hrel
            gi_wp2
            go_end0
            exact ⟨⟨_, rfl⟩, .inl ⟨_, HP.out, hJs⟩⟩

/-- Its contract: the limbs of both rows, place by place, as many as the first one has. -/
theorem pairs_stops (Ba Bb : Nat) (v u : Value) (xs ys : List Nat) (w0 w : World) (hB : Below w0.heap.size w0 w) (hle : ys.length ≤ xs.length) (hBa : Ba < w.heap.size) (hBb : Bb < w.heap.size)
    (hca : Boxed w Ba 22 v) (hcb : Boxed w Bb 22 u) (hU : U w0 v xs) (hV : U w0 u ys) :
    SeqStopsK Fence.wide 3 Tryz.prog 85 #[.pointer (some ⟨Bb, 0, none⟩), .pointer (some ⟨Ba, 0, none⟩)] encP (KpP w0.heap.size Ba Bb) (fun l => l.map (·.1) = pairsL xs ys xs.length)
      (fun pre => True) xs.length w := fun l J Jx W hW _ _ hY h0 => by
  obtain ⟨A, c, rfl, h1, hx, hr⟩ := id hU
  obtain ⟨A2, c2, rfl, h2, hy, hr2⟩ := id hV
  have hW' := hB.trans (hW.mono hB.size)
  exact pairs1_in l Ba Bb A A2 c c2 xs ys hle w0.heap.size W (hU.below hW') (hV.below hW')
    (fun ad e h0 => by obtain ⟨ad', e', hb, _⟩ := hr h0; rw [e] at e'; injection e' with e'; subst e'; exact hb)
    (fun ad e h0 => by obtain ⟨ad', e', hb, _⟩ := hr2 h0; rw [e] at e'; injection e' with e'; subst e'; exact hb) J Jx hY
    ((hW.cell (p := ⟨Ba, 0, none⟩) hBa).trans hca.cell) ((hW.cell (p := ⟨Bb, 0, none⟩) hBb).trans hcb.cell) h0
end Go.Proofs.YtigdflfhepelaaaGreatDoor
/- nat.Add. -/
namespace Go.Proofs.YtigdflfhepelaaaGreatDoor
open Go.RowKit Go.Shelf
set_option linter.unusedVariables false
attribute [local go_sem] Oper.semAt_some
attribute [local go_sem ↓] app_shut
attribute [local go_sem] run_append_tok

/-- What is kept between two rounds: the limbs so far, in a box; what is carried, in a box; the closure, in a box. -/
structure SumAt (w : World) (B g cap fn : Nat) (o : List Nat) (cy : Nat) (W : World) : Prop where
  box : Boxed W B 22 (.slice (some ⟨g, 0, none⟩) o.length cap)
  own : Own W g (.slice (some ⟨g, 0, none⟩) o.length cap) o
  car : Boxed W (B + 1) 46 (.int .u32 (cy : Nat))
  fnc : Boxed W (B + 2) 91 (.func (.func fn) #[] #[.pointer (some ⟨B + 1, 0, none⟩)])
  bel : Below w.heap.size w W
  siz : B + 5 ≤ W.heap.size

theorem boxed_row {X : World} {B : Nat} {t : TypeId} {v : Value} {row : Option Nat} (h : Boxed X B t v) (hr : ∀ r, row = some r → ∃ o : Obj, X.heap[r]? = some o ∧ o.isCells = false) : some B ≠ row := fun e => by
  obtain ⟨o, ho, hc⟩ := hr B e.symm
  rw [show X.heap[B]? = _ from h] at ho; cases ho; cases hc

theorem own_row {X : World} {base g c n : Nat} {e : TypeId} {xs : List Value} {row : Option Nat} (h : X.ownsRow base e 1 (.slice (some ⟨g, 0, none⟩) n c) n xs) (hr : ∀ r, row = some r → ∃ o : Obj, X.heap[r]? = some o ∧ o.isCells = false) : some g ≠ row := fun e' => by
  obtain ⟨o, ho, hc⟩ := hr g e'.symm
  rcases h.2 with ⟨h', _⟩ | ⟨g', cap', cur, h', _, hg, _⟩
  · cases h'
  · cases h'; rw [hg] at ho; cases ho; cases hc

theorem SumAt.grown {w X Y : World} {B g cap fn : Nat} {o : List Nat} {cy : Nat} {row : Option Nat} {B0 : Nat} (h : SumAt w B g cap fn o cy X) (hg : X.grownBy Y row)
    (hB0 : w.heap.size ≤ B0) (hr : ∀ r, row = some r → B0 ≤ r ∧ ∃ o : Obj, X.heap[r]? = some o ∧ o.isCells = false) : SumAt w B g cap fn o cy Y :=
  ⟨h.box.kept hg (boxed_row h.box fun r e => (hr r e).2), World.ownsRow.kept h.own hg (.inr (own_row h.own fun r e => (hr r e).2)),
   h.car.kept hg (boxed_row h.car fun r e => (hr r e).2), h.fnc.kept hg (boxed_row h.fnc fun r e => (hr r e).2),
   h.bel.grown hg h.bel.size (fun k e => Nat.le_trans hB0 (hr k e).1), Nat.le_trans h.siz hg.size⟩

/-- Nothing but the ordinary end. -/
def NormalOnly (K : Act → World → Prop) : Exit → Act → World → Prop
  | .normal, a, w => K a w
  | _, _, _ => False
theorem wpIn_normal {F : Fence} {n : Nat} {P : Program} {c : Code} {K : Act → World → Prop} {Q : Exit → Act → World → Prop} {a : Act} {w : World} (h : c.wpIn F n P (NormalOnly K) a w) : c.wpIn F n P (Exit.then K Q) a w :=
  wpIn_mono h fun e a w hq => by
    cases e with
    | normal => exact hq
    | _ => exact hq.elim

theorem U.put {W : World} {v : Value} {xs : List Nat} {l : Nat} {o : Obj} (h : U W v xs) (hl : W.heap[l]? = some o) (ho : o.isCells = false) (o' : Obj) : U (W.putObj l o') v xs := by
  have hg := grownBy_putObj' W l o'
  obtain ⟨A, c, rfl, hc, hx, hr⟩ := h
  refine ⟨A, c, rfl, hc, hx, fun h0 => ?_⟩
  obtain ⟨ad, hA, hb, hcell⟩ := hr h0
  exact ⟨ad, hA, Nat.lt_of_lt_of_le hb hg.size, fun j hj => cell_kept (hcell j hj) hg (fun r e => by cases e; exact ⟨_, hl, ho⟩)⟩

set_option maxRecDepth 100000 in
set_option maxHeartbeats 4000000 in
theorem add_ge (w : World) (v u : Value) (xs ys : List Nat) (h : U w v xs) (g : U w u ys) (hl : ys.length ≤ xs.length) (hm : xs.length ≤ 1000000000) :
    CallsIn Fence.wide 4 Tryz.prog 46 #[v, u] w fun e w' => (∃ z, e = .returned z ∧ Un w' z (val xs + val ys)) ∧ Below w.heap.size w w' := by
  obtain ⟨A, c, rfl, ⟨hc, _⟩, hx, hr⟩ := id h
  obtain ⟨A2, c2, rfl, ⟨hc2, _⟩, hx2, hr2⟩ := id g
  clear hr hr2
  have hl1 : decide (xs.length < ys.length) = false := by rw [decide_eq_false_iff_not]; omega
  have HL := Lib.hid hl
  clear hl
  obtain ⟨i0, hi, hz0, hz1, hz2⟩ := info_parts info46
  refine callsIn_of_wp_marks Tryz.func46 rfl trivial ?_ rfl
  simp only [Tryz.ntmps46, List.size_toArray, List.length_cons, List.length_nil, Nat.reduceAdd, Nat.reduceSub, Array.replicate_succ, Array.replicate_zero, List.push_toArray, List.append_toArray, List.nil_append, List.cons_append]
  gi_wp2_with (first | (gi_at_make; refine wpListIn_make_own _ rfl _ _ 22 rfl w.heap.size 46 i0 (.int .u32 0) 1 Tryz.underlying22 hi hz0 hz1 _ _ _ (xs.length + 1) rfl rfl (by omega) (by rw [hz2]; omega) (by unfold maxLen; omega) (Nat.le_refl _) ?_; intro w1 hown hgrow) | (refine ⟨trivial, ?_⟩; gi_at_call 61; refine (callsIn_wide.2 (adder_calls _)).mono ?_; rintro e w' ⟨rfl, rfl⟩) | (refine ⟨trivial, ?_⟩; gi_at_call 62; refine (callsIn_wide.2 (pairs_calls _ _ _ _ _ _ _)).mono ?_; rintro e w' ⟨rfl, rfl⟩))
  obtain ⟨B, hB⟩ : ∃ B, w1.heap.size = B := ⟨_, rfl⟩
  obtain ⟨W0, hW0⟩ : ∃ W0, (((((w1.alloc (.cells #[.slice (some ⟨w.heap.size, 0, none⟩) 0 (xs.length + 1)] 22)).alloc (.cells #[.int .u32 0] 46)).alloc (.cells #[.func (.func 83) #[] #[.pointer (some ⟨w1.heap.size + 1, 0, none⟩)]] 91)).alloc (.cells #[.slice A xs.length c] 22)).alloc (.cells #[.slice A2 ys.length c2] 22)) = W0 := ⟨_, rfl⟩
  have hB1 : Below w.heap.size w w1 := (Below.refl _ _).grown hgrow (Nat.le_refl _) (fun _ h => by cases h)
  have hB1s := hB1.size
  have hB0 : Below w.heap.size w W0 := by
    rw [← hW0]
    exact ((((hB1.alloc (by omega) _).alloc (by simp; omega) _).alloc (by simp; omega) _).alloc (by simp; omega) _).alloc (by simp; omega) _
  have hsz : W0.heap.size = B + 5 := by rw [← hW0, ← hB]; simp
  have b0 : Boxed W0 B 22 (.slice (some ⟨w.heap.size, 0, none⟩) 0 (xs.length + 1)) := by
    rw [← hW0, ← hB]; exact ((((Boxed.new w1 22 _).alloc _).alloc _).alloc _).alloc _
  have b1 : Boxed W0 (B + 1) 46 (.int .u32 0) := by
    rw [← hW0, ← hB]
    have := ((((Boxed.new (w1.alloc (.cells #[.slice (some ⟨w.heap.size, 0, none⟩) 0 (xs.length + 1)] 22)) 46 (.int .u32 0)).alloc (.cells #[.func (.func 83) #[] #[.pointer (some ⟨w1.heap.size + 1, 0, none⟩)]] 91)).alloc (.cells #[.slice A xs.length c] 22)).alloc (.cells #[.slice A2 ys.length c2] 22))
    simpa using this
  have b2 : Boxed W0 (B + 2) 91 (.func (.func 83) #[] #[.pointer (some ⟨B + 1, 0, none⟩)]) := by
    rw [← hW0, ← hB]
    have := (((Boxed.new ((w1.alloc (.cells #[.slice (some ⟨w.heap.size, 0, none⟩) 0 (xs.length + 1)] 22)).alloc (.cells #[.int .u32 0] 46)) 91 (.func (.func 83) #[] #[.pointer (some ⟨w1.heap.size + 1, 0, none⟩)])).alloc (.cells #[.slice A xs.length c] 22)).alloc (.cells #[.slice A2 ys.length c2] 22))
    simpa using this
  have b3 : Boxed W0 (B + 3) 22 (.slice A xs.length c) := by
    rw [← hW0, ← hB]
    have := ((Boxed.new (((w1.alloc (.cells #[.slice (some ⟨w.heap.size, 0, none⟩) 0 (xs.length + 1)] 22)).alloc (.cells #[.int .u32 0] 46)).alloc (.cells #[.func (.func 83) #[] #[.pointer (some ⟨w1.heap.size + 1, 0, none⟩)]] 91)) 22 (.slice A xs.length c)).alloc (.cells #[.slice A2 ys.length c2] 22))
    simpa using this
  have b4 : Boxed W0 (B + 4) 22 (.slice A2 ys.length c2) := by
    rw [← hW0, ← hB]
    have := (Boxed.new ((((w1.alloc (.cells #[.slice (some ⟨w.heap.size, 0, none⟩) 0 (xs.length + 1)] 22)).alloc (.cells #[.int .u32 0] 46)).alloc (.cells #[.func (.func 83) #[] #[.pointer (some ⟨w1.heap.size + 1, 0, none⟩)]] 91)).alloc (.cells #[.slice A xs.length c] 22)) 22 (.slice A2 ys.length c2))
    simpa using this
  have hown0 : Own W0 w.heap.size (.slice (some ⟨w.heap.size, 0, none⟩) ([] : List Nat).length (xs.length + 1)) [] := by
    rw [← hW0]; exact ((((World.ownsRow.alloc hown _).alloc _).alloc _).alloc _).alloc _
  have hS0 : SumAt w B w.heap.size (xs.length + 1) 83 [] 0 W0 := ⟨b0, hown0, b1, b2, hB0, by omega⟩
  have hBw : w.heap.size < B := by have := (World.ownsRow.lt hown w.heap.size rfl).2; omega
  have hWr : Boxed W0 B 22 (.slice (some ⟨w.heap.size, 0, none⟩) 0 (xs.length + 1)) := b0
  rw [hW0]
  rw [hB]
  clear hW0 b0 b1 b2 hown0 hown hgrow hB1 hB1s hWr hB
  refine wpIn_rangeFunc_ownG rfl (by omega) (gf := 85) (lb := #[.pointer (some ⟨B + 4, 0, none⟩), .pointer (some ⟨B + 3, 0, none⟩)]) rfl trivial (enters_of Tryz.func85 (by kernel_rfl) rfl)
    (pairs_stops (B + 3) (B + 4) _ _ xs ys w W0 hB0 HL.out (by omega) (by omega) b3 b4 h g) KpP.trans (kpP_b (by omega) (by omega) (by omega)) (Below.refl _ _) (fun _ => rfl)
    (fun pre W => ∃ o cy, Hid (AddInv pre o cy) ∧ SumAt w B w.heap.size (xs.length + 1) 83 o cy W)
    (fun c pre W => False)
    (fun s X Y row hs hg hr => by obtain ⟨o, cy, ha, hs⟩ := hs; exact ⟨o, cy, ha, hs.grown hg (by omega) hr⟩)
    (fun c s X Y row hs hg hr => hs)
    ⟨[], 0, AddInv.start, hS0⟩
    (fun x => { tmps := #[.slice A xs.length c, .slice A2 ys.length c2, undef, undef, .slice none 0 0, .pointer (some ⟨B, 0, none⟩), .pointer (some ⟨B + 1 + 1, 0, none⟩), .int .u32 (x.1.1 : Int), .int .u32 (x.1.2 : Int), .slice A xs.length c, .int .i64 (xs.length : Int), .slice A2 ys.length c2, .int .i64 (ys.length : Int), .bool false, undef, undef, .slice A xs.length c, .int .i64 (xs.length : Int), .int .i64 ((xs.length : Int) + 1), .slice (some ⟨w.heap.size, 0, none⟩) 0 (xs.length + 1), .func (.func 83) #[] #[.pointer (some ⟨B + 1, 0, none⟩)], .slice A xs.length c, .slice A2 ys.length c2, .func (.func 85) #[] #[.pointer (some ⟨B + 1 + 1 + 1 + 1, 0, none⟩), .pointer (some ⟨B + 1 + 1 + 1, 0, none⟩)], .int .u32 (x.1.1 : Int), .int .u32 (x.1.2 : Int), undef, undef, undef, undef, undef, undef, undef, undef, undef, undef, undef, undef, undef], defers := [] }) ?assign ?body ?done ?stop
  case assign =>
    intro l x W K hK
    gi_wp2
    exact hK
  case body =>
    rintro l pre x W ⟨o, cy, HA, hS⟩ hpl
    have hb0 := hS.box.cell
    have hf0 := hS.box.frozen
    have hb1 := hS.car.cell
    have hf1 := hS.car.frozen
    have hb2 := hS.fnc.cell
    have hmx : Tryz.prog.follows .mixedOrders = true := by kernel_rfl
    have hcy := HA.out.carry
    have hlen := HA.out.len
    have hol : o.length + 1 ≤ xs.length + 1 := by omega
    have HA2 := Lib.hid (HA.out.step x)
    obtain ⟨d, hd⟩ : ∃ d, (x.1.1 + x.1.2 + cy) % 4294967296 = d := ⟨_, rfl⟩
    obtain ⟨cz, hcz⟩ : ∃ d, (x.1.1 + x.1.2 + cy) / 4294967296 = d := ⟨_, rfl⟩
    have hcall := adder1_calls W.drew x.1.1 x.1.2 cy (B + 1) x.2.1 x.2.2 hcy hb1 hf1
    rw [hd, hcz] at hcall HA2
    obtain ⟨W1, hW1⟩ : ∃ W1, W.drew.setCell ⟨B + 1, 0, none⟩ (.int .u32 (cz : Nat)) = W1 := ⟨_, rfl⟩
    rw [hW1] at hcall
    have hsz1 : W1.heap.size = W.heap.size := by rw [← hW1]; simp [World.setCell]
    have hg1 : W.grownBy W1 (some (B + 1)) := by rw [← hW1]; have hq := grownBy_setCell' W.drew (B + 1) (.int .u32 (cz : Nat)); exact ⟨hq.os, hq.tape, hq.output, hq.size, hq.block⟩
    have hown1 : (W1.alloc (.cells #[.int .u32 (d : Nat)] 46)).ownsRow w.heap.size 46 1 (.slice (some ⟨w.heap.size, 0, none⟩) o.length (xs.length + 1)) o.length (L32 o) :=
      World.ownsRow.alloc (World.ownsRow.kept hS.own hg1 (.inr (by simp [Value.ownBlock]; omega))) _
    have hx0 := hS.box.kept hg1 (by intro e; injection e with e; omega)
    have hx2 := hS.fnc.kept hg1 (by intro e; injection e with e; omega)
    have hx1 : Boxed W1 (B + 1) 46 (.int .u32 (cz : Nat)) := by rw [← hW1]; exact Boxed.set (W := W.drew) _ hS.car
    have hxb : Below w.heap.size w W1 := hS.bel.grown hg1 hS.bel.size (fun k e => by injection e with e; omega)
    have hxW : Below w.heap.size W W1 := (Below.refl _ W).grown hg1 hS.bel.size (fun k e => by injection e with e; omega)
    have hko : KeepsOthers W W1 := by rw [← hW1]; exact (KeepsOthers.drew W).trans (KeepsOthers.setCell _ _ _)
    obtain ⟨W2, hrun, hown2, hgrow2⟩ := run_append_fits (P := Tryz.prog) (W1.alloc (.cells #[.int .u32 (d : Nat)] 46)) w.heap.size 22 22 46 i0 1 Tryz.underlying22 hi hz1 w.heap.size o.length (xs.length + 1) (L32 o) hown1
      ⟨W1.heap.size, 0, none⟩ 1 1 [.int .u32 (d : Nat)] rfl (by intro j u hj; cases j with | zero => simp at hj; subst hj; simp [Addr.add] | succ j => simp at hj) (by simp [Value.oneCell']) hol
    have hy0 := (hx0.alloc (.cells #[.int .u32 (d : Nat)] 46)).kept hgrow2 (by intro e; injection e with e; omega)
    have hy1 := (hx1.alloc (.cells #[.int .u32 (d : Nat)] 46)).kept hgrow2 (by intro e; injection e with e; omega)
    have hy2 := (hx2.alloc (.cells #[.int .u32 (d : Nat)] 46)).kept hgrow2 (by intro e; injection e with e; omega)
    have hyb : Below w.heap.size w W2 := (hxb.alloc hxb.size _).grown hgrow2 (by have := hxb.size; rw [World.size_alloc]; omega) (fun k e => by injection e with e; omega)
    have hyW : Below w.heap.size W W2 := (hxW.alloc hxb.size _).grown hgrow2 (by have := hxb.size; rw [World.size_alloc]; omega) (fun k e => by injection e with e; omega)
    have hkeep : ∀ k, k < W.heap.size → k ≠ B + 1 → k ≠ w.heap.size → W2.heap[k]? = W.heap[k]? := fun k h1 h2 h3 =>
      ((hgrow2.block k (by rw [World.size_alloc]; omega) (fun e => h3 (by injection e))).trans (Below.heap_alloc _ _ k (by omega))).trans (hg1.block k h1 (fun e => h2 (by injection e)))
    have hko2 : KeepsOthers W W2 := (hko.trans (KeepsOthers.alloc _ _)).trans (KeepsOthers.of_grownBy hgrow2 fun j ob ej hj => by
      cases ej
      rcases hown1.2 with ⟨h', _⟩ | ⟨g', cap', cur, h', _, hg, _⟩
      · cases h'
      · cases h'; rw [hg] at hj; cases hj; rfl)
    have hyc0 := hy0.cell
    have hxc0 := hx0.cell
    have hxc1 := (hx0.alloc (.cells #[.int .u32 (d : Nat)] 46)).cell
    have hyf0 := hy0.frozen
    have HW1 := Lib.hid hsz1
    obtain ⟨ht1, ht2, ht3⟩ := app_tok hrun
    clear hrun hW1 hsz1 hd hcz hg1 hlen
    gi_wp2
    gi_region_with_o ((refine ⟨trivial, ?_⟩; gi_at_call 83; refine (CallsIn.inRound l (callsIn_wide.2 hcall)).mono ?_; rintro e w' ⟨rfl, rfl⟩))
    all_goals gi_wp2
    all_goals
      have hsiz := hS.siz
      have hW2s := hko2.size
      have hset := grownBy_setCell' W2 B (.slice (some ⟨w.heap.size, 0, none⟩) (o.length + 1) (xs.length + 1))
      have hrow : (W2.setCell ⟨B, 0, none⟩ (.slice (some ⟨w.heap.size, 0, none⟩) (o.length + 1) (xs.length + 1))).ownsRow w.heap.size 46 1 (.slice (some ⟨w.heap.size, 0, none⟩) (o.length + 1) (xs.length + 1)) (o.length + 1) (L32 o ++ [.int .u32 (d : Nat)]) :=
        World.ownsRow.kept hown2 hset (.inr (by simp only [Value.ownBlock]; intro e; injection e with e; omega))
      refine ⟨(hko2.trans (KeepsOthers.setCell _ _ _)).from _, ⟨hyW.setCell (p := ⟨B, 0, none⟩) (Nat.le_of_lt hBw) _, ?_, ?_⟩, o ++ [d], cz, HA2.out, ?_, ?_, hy1.other (by omega) _, hy2.other (by omega) _, hyb.setCell (p := ⟨B, 0, none⟩) (Nat.le_of_lt hBw) _, ?_⟩
      · exact (hset.block (B + 3) (by omega) (fun e => by injection e with e; omega)).trans (hkeep (B + 3) (by omega) (by omega) (by omega))
      · exact (hset.block (B + 4) (by omega) (fun e => by injection e with e; omega)).trans (hkeep (B + 4) (by omega) (by omega) (by omega))
      · rw [List.length_append]; exact hy0.set _
      · unfold Own; rw [L32_append, List.length_append]; exact hrow
      · have := hset.size; omega
  case done =>
    rintro D l W hD hl ⟨o, cy, HA, hS⟩ hK
    have hb0 := hS.box.cell
    have hb1 := hS.car.cell
    have hf1 := hS.car.frozen
    have hb2 := hS.fnc.cell
    have hsiz := hS.siz
    have hmx : Tryz.prog.follows .mixedOrders = true := by kernel_rfl
    have hcy := HA.out.carry
    have hlen := HA.out.len
    have hdone := HA.out.done hl HL.out
    have hltl := snoc_lt HA.out.lt (show cy < 4294967296 by omega)
    have hol : o.length = xs.length := by rw [hlen]; have := congrArg List.length hl; simpa [pairsL] using this
    have hcall := adder1_calls W.drew 0 0 cy (B + 1) (by decide) (by decide) hcy hb1 hf1
    rw [show (0 + 0 + cy) % 4294967296 = cy by omega, show (0 + 0 + cy) / 4294967296 = 0 by omega, show (((0 : Nat)) : Int) = 0 from rfl] at hcall
    obtain ⟨W1, hW1⟩ : ∃ W1, W.drew.setCell ⟨B + 1, 0, none⟩ (.int .u32 0) = W1 := ⟨_, rfl⟩
    rw [hW1] at hcall
    have hsz1 : W1.heap.size = W.heap.size := by rw [← hW1]; simp [World.setCell]
    have hg1 : W.grownBy W1 (some (B + 1)) := by rw [← hW1]; have hq := grownBy_setCell' W.drew (B + 1) (.int .u32 0); exact ⟨hq.os, hq.tape, hq.output, hq.size, hq.block⟩
    have hown1 : (W1.alloc (.cells #[.int .u32 (cy : Nat)] 46)).ownsRow w.heap.size 46 1 (.slice (some ⟨w.heap.size, 0, none⟩) o.length (xs.length + 1)) o.length (L32 o) :=
      World.ownsRow.alloc (World.ownsRow.kept hS.own hg1 (.inr (by simp [Value.ownBlock]; omega))) _
    have hx0 := hS.box.kept hg1 (by intro e; injection e with e; omega)
    have hxb : Below w.heap.size w W1 := hS.bel.grown hg1 hS.bel.size (fun k e => by injection e with e; omega)
    have hko : KeepsOthers W W1 := by rw [← hW1]; exact (KeepsOthers.drew W).trans (KeepsOthers.setCell _ _ _)
    obtain ⟨W2, hrun, hown2, hgrow2⟩ := run_append_fits (P := Tryz.prog) (W1.alloc (.cells #[.int .u32 (cy : Nat)] 46)) w.heap.size 22 22 46 i0 1 Tryz.underlying22 hi hz1 w.heap.size o.length (xs.length + 1) (L32 o) hown1
      ⟨W1.heap.size, 0, none⟩ 1 1 [.int .u32 (cy : Nat)] rfl (by intro j u hj; cases j with | zero => simp at hj; subst hj; simp [Addr.add] | succ j => simp at hj) (by simp [Value.oneCell']) (by omega)
    have hyb : Below w.heap.size w W2 := (hxb.alloc hxb.size _).grown hgrow2 (by have := hxb.size; rw [World.size_alloc]; omega) (fun k e => by injection e with e; omega)
    have hko2 : KeepsOthers W W2 := (hko.trans (KeepsOthers.alloc _ _)).trans (KeepsOthers.of_grownBy hgrow2 fun j ob ej hj => by
      cases ej
      rcases hown1.2 with ⟨h', _⟩ | ⟨g', cap', cur, h', _, hg, _⟩
      · cases h'
      · cases h'; rw [hg] at hj; cases hj; rfl)
    have hK2 := hko2.same D _ hK rfl
    have hu : U W2 (.slice (some ⟨w.heap.size, 0, none⟩) (o.length + 1) (xs.length + 1)) (o ++ [cy]) := by
      refine Own.toU (base := w.heap.size) ?_ hltl (by rw [List.length_append, List.length_singleton]; omega)
      unfold Own; rw [L32_append, List.length_append]; exact hown2
    have hxc0 := hx0.cell
    have hxc1 := (hx0.alloc (.cells #[.int .u32 (cy : Nat)] 46)).cell
    obtain ⟨ht1, ht2, ht3⟩ := app_tok hrun
    have HD := Lib.hid hdone
    clear hrun hW1 hsz1 hg1 hlen hdone hol hl
    gi_wp2
    refine wpIn_normal ?_
    gi_region_with_o (first | (refine ⟨trivial, ?_⟩; gi_at_call 83; refine (callsIn_wide.2 hcall).mono ?_; rintro e w' ⟨rfl, rfl⟩) | (refine ⟨trivial, ?_⟩; gi_at_call 63; refine (callsIn_wide.2 (make_calls _ _ _ hu)).mono ?_; rintro e w' ⟨⟨z, rfl, hz⟩, rfl⟩))
    all_goals unfold NormalOnly
    all_goals gi_wp2
    all_goals
      refine ⟨by simp, .inl ⟨_, _, rfl, run_takeDeferred hK2, ?_⟩⟩
      refine ⟨_, results_tmp rfl _ _ _, ⟨_, rfl, ?_⟩, hyb.trans (belowK_b (w := w) (Nat.le_refl _) _ D _ _ (by omega) hK2 rfl rfl)⟩
      rw [HD.out] at hz
      exact hz.put hK2 rfl _
  case stop =>
    rintro D cc pre W hD _ h _
    exact h.elim
end Go.Proofs.YtigdflfhepelaaaGreatDoor
/- nat.Add. -/
namespace Go.Proofs.YtigdflfhepelaaaGreatDoor
open Go.RowKit Go.Shelf
set_option linter.unusedVariables false
attribute [local go_sem] Oper.semAt_some
attribute [local go_sem ↓] app_shut
attribute [local go_sem] run_append_tok

set_option maxRecDepth 100000 in
set_option maxHeartbeats 4000000 in
theorem add_lt (w : World) (v u : Value) (xs ys : List Nat) (h : U w v xs) (g : U w u ys) (hl : ys.length < xs.length) (hm : xs.length ≤ 1000000000) :
    CallsIn Fence.wide 4 Tryz.prog 46 #[u, v] w fun e w' => (∃ z, e = .returned z ∧ Un w' z (val xs + val ys)) ∧ Below w.heap.size w w' := by
  obtain ⟨A, c, rfl, ⟨hc, _⟩, hx, hr⟩ := id h
  obtain ⟨A2, c2, rfl, ⟨hc2, _⟩, hx2, hr2⟩ := id g
  clear hr hr2
  have hl1 : decide (ys.length < xs.length) = true := by rw [decide_eq_true_iff]; omega
  have HL := Lib.hid (Nat.le_of_lt hl)
  clear hl
  obtain ⟨i0, hi, hz0, hz1, hz2⟩ := info_parts info46
  refine callsIn_of_wp_marks Tryz.func46 rfl trivial ?_ rfl
  simp only [Tryz.ntmps46, List.size_toArray, List.length_cons, List.length_nil, Nat.reduceAdd, Nat.reduceSub, Array.replicate_succ, Array.replicate_zero, List.push_toArray, List.append_toArray, List.nil_append, List.cons_append]
  gi_wp2_with (first | (gi_at_make; refine wpListIn_make_own _ rfl _ _ 22 rfl w.heap.size 46 i0 (.int .u32 0) 1 Tryz.underlying22 hi hz0 hz1 _ _ _ (xs.length + 1) rfl rfl (by omega) (by rw [hz2]; omega) (by unfold maxLen; omega) (Nat.le_refl _) ?_; intro w1 hown hgrow) | (refine ⟨trivial, ?_⟩; gi_at_call 61; refine (callsIn_wide.2 (adder_calls _)).mono ?_; rintro e w' ⟨rfl, rfl⟩) | (refine ⟨trivial, ?_⟩; gi_at_call 62; refine (callsIn_wide.2 (pairs_calls _ _ _ _ _ _ _)).mono ?_; rintro e w' ⟨rfl, rfl⟩))
  obtain ⟨B, hB⟩ : ∃ B, w1.heap.size = B := ⟨_, rfl⟩
  obtain ⟨W0, hW0⟩ : ∃ W0, (((((w1.alloc (.cells #[.slice (some ⟨w.heap.size, 0, none⟩) 0 (xs.length + 1)] 22)).alloc (.cells #[.int .u32 0] 46)).alloc (.cells #[.func (.func 83) #[] #[.pointer (some ⟨w1.heap.size + 1, 0, none⟩)]] 91)).alloc (.cells #[.slice A xs.length c] 22)).alloc (.cells #[.slice A2 ys.length c2] 22)) = W0 := ⟨_, rfl⟩
  have hB1 : Below w.heap.size w w1 := (Below.refl _ _).grown hgrow (Nat.le_refl _) (fun _ h => by cases h)
  have hB1s := hB1.size
  have hB0 : Below w.heap.size w W0 := by
    rw [← hW0]
    exact ((((hB1.alloc (by omega) _).alloc (by simp; omega) _).alloc (by simp; omega) _).alloc (by simp; omega) _).alloc (by simp; omega) _
  have hsz : W0.heap.size = B + 5 := by rw [← hW0, ← hB]; simp
  have b0 : Boxed W0 B 22 (.slice (some ⟨w.heap.size, 0, none⟩) 0 (xs.length + 1)) := by
    rw [← hW0, ← hB]; exact ((((Boxed.new w1 22 _).alloc _).alloc _).alloc _).alloc _
  have b1 : Boxed W0 (B + 1) 46 (.int .u32 0) := by
    rw [← hW0, ← hB]
    have := ((((Boxed.new (w1.alloc (.cells #[.slice (some ⟨w.heap.size, 0, none⟩) 0 (xs.length + 1)] 22)) 46 (.int .u32 0)).alloc (.cells #[.func (.func 83) #[] #[.pointer (some ⟨w1.heap.size + 1, 0, none⟩)]] 91)).alloc (.cells #[.slice A xs.length c] 22)).alloc (.cells #[.slice A2 ys.length c2] 22))
    simpa using this
  have b2 : Boxed W0 (B + 2) 91 (.func (.func 83) #[] #[.pointer (some ⟨B + 1, 0, none⟩)]) := by
    rw [← hW0, ← hB]
    have := (((Boxed.new ((w1.alloc (.cells #[.slice (some ⟨w.heap.size, 0, none⟩) 0 (xs.length + 1)] 22)).alloc (.cells #[.int .u32 0] 46)) 91 (.func (.func 83) #[] #[.pointer (some ⟨w1.heap.size + 1, 0, none⟩)])).alloc (.cells #[.slice A xs.length c] 22)).alloc (.cells #[.slice A2 ys.length c2] 22))
    simpa using this
  have b3 : Boxed W0 (B + 3) 22 (.slice A xs.length c) := by
    rw [← hW0, ← hB]
    have := ((Boxed.new (((w1.alloc (.cells #[.slice (some ⟨w.heap.size, 0, none⟩) 0 (xs.length + 1)] 22)).alloc (.cells #[.int .u32 0] 46)).alloc (.cells #[.func (.func 83) #[] #[.pointer (some ⟨w1.heap.size + 1, 0, none⟩)]] 91)) 22 (.slice A xs.length c)).alloc (.cells #[.slice A2 ys.length c2] 22))
    simpa using this
  have b4 : Boxed W0 (B + 4) 22 (.slice A2 ys.length c2) := by
    rw [← hW0, ← hB]
    have := (Boxed.new ((((w1.alloc (.cells #[.slice (some ⟨w.heap.size, 0, none⟩) 0 (xs.length + 1)] 22)).alloc (.cells #[.int .u32 0] 46)).alloc (.cells #[.func (.func 83) #[] #[.pointer (some ⟨w1.heap.size + 1, 0, none⟩)]] 91)).alloc (.cells #[.slice A xs.length c] 22)) 22 (.slice A2 ys.length c2))
    simpa using this
  have hown0 : Own W0 w.heap.size (.slice (some ⟨w.heap.size, 0, none⟩) ([] : List Nat).length (xs.length + 1)) [] := by
    rw [← hW0]; exact ((((World.ownsRow.alloc hown _).alloc _).alloc _).alloc _).alloc _
  have hS0 : SumAt w B w.heap.size (xs.length + 1) 83 [] 0 W0 := ⟨b0, hown0, b1, b2, hB0, by omega⟩
  have hBw : w.heap.size < B := by have := (World.ownsRow.lt hown w.heap.size rfl).2; omega
  have hWr : Boxed W0 B 22 (.slice (some ⟨w.heap.size, 0, none⟩) 0 (xs.length + 1)) := b0
  rw [hW0]
  rw [hB]
  clear hW0 b0 b1 b2 hown0 hown hgrow hB1 hB1s hWr hB
  refine wpIn_rangeFunc_ownG rfl (by omega) (gf := 85) (lb := #[.pointer (some ⟨B + 4, 0, none⟩), .pointer (some ⟨B + 3, 0, none⟩)]) rfl trivial (enters_of Tryz.func85 (by kernel_rfl) rfl)
    (pairs_stops (B + 3) (B + 4) _ _ xs ys w W0 hB0 HL.out (by omega) (by omega) b3 b4 h g) KpP.trans (kpP_b (by omega) (by omega) (by omega)) (Below.refl _ _) (fun _ => rfl)
    (fun pre W => ∃ o cy, Hid (AddInv pre o cy) ∧ SumAt w B w.heap.size (xs.length + 1) 83 o cy W)
    (fun c pre W => False)
    (fun s X Y row hs hg hr => by obtain ⟨o, cy, ha, hs⟩ := hs; exact ⟨o, cy, ha, hs.grown hg (by omega) hr⟩)
    (fun c s X Y row hs hg hr => hs)
    ⟨[], 0, AddInv.start, hS0⟩
    (fun x => { tmps := #[.slice A xs.length c, .slice A2 ys.length c2, undef, undef, .slice none 0 0, .pointer (some ⟨B, 0, none⟩), .pointer (some ⟨B + 1 + 1, 0, none⟩), .int .u32 (x.1.1 : Int), .int .u32 (x.1.2 : Int), .slice A2 ys.length c2, .int .i64 (ys.length : Int), .slice A xs.length c, .int .i64 (xs.length : Int), .bool true, .slice A xs.length c, .slice A2 ys.length c2, .slice A xs.length c, .int .i64 (xs.length : Int), .int .i64 ((xs.length : Int) + 1), .slice (some ⟨w.heap.size, 0, none⟩) 0 (xs.length + 1), .func (.func 83) #[] #[.pointer (some ⟨B + 1, 0, none⟩)], .slice A xs.length c, .slice A2 ys.length c2, .func (.func 85) #[] #[.pointer (some ⟨B + 1 + 1 + 1 + 1, 0, none⟩), .pointer (some ⟨B + 1 + 1 + 1, 0, none⟩)], .int .u32 (x.1.1 : Int), .int .u32 (x.1.2 : Int), undef, undef, undef, undef, undef, undef, undef, undef, undef, undef, undef, undef, undef], defers := [] }) ?assign ?body ?done ?stop
  case assign =>
    intro l x W K hK
    gi_wp2
    exact hK
  case body =>
    rintro l pre x W ⟨o, cy, HA, hS⟩ hpl
    have hb0 := hS.box.cell
    have hf0 := hS.box.frozen
    have hb1 := hS.car.cell
    have hf1 := hS.car.frozen
    have hb2 := hS.fnc.cell
    have hmx : Tryz.prog.follows .mixedOrders = true := by kernel_rfl
    have hcy := HA.out.carry
    have hlen := HA.out.len
    have hol : o.length + 1 ≤ xs.length + 1 := by omega
    have HA2 := Lib.hid (HA.out.step x)
    obtain ⟨d, hd⟩ : ∃ d, (x.1.1 + x.1.2 + cy) % 4294967296 = d := ⟨_, rfl⟩
    obtain ⟨cz, hcz⟩ : ∃ d, (x.1.1 + x.1.2 + cy) / 4294967296 = d := ⟨_, rfl⟩
    have hcall := adder1_calls W.drew x.1.1 x.1.2 cy (B + 1) x.2.1 x.2.2 hcy hb1 hf1
    rw [hd, hcz] at hcall HA2
    obtain ⟨W1, hW1⟩ : ∃ W1, W.drew.setCell ⟨B + 1, 0, none⟩ (.int .u32 (cz : Nat)) = W1 := ⟨_, rfl⟩
    rw [hW1] at hcall
    have hsz1 : W1.heap.size = W.heap.size := by rw [← hW1]; simp [World.setCell]
    have hg1 : W.grownBy W1 (some (B + 1)) := by rw [← hW1]; have hq := grownBy_setCell' W.drew (B + 1) (.int .u32 (cz : Nat)); exact ⟨hq.os, hq.tape, hq.output, hq.size, hq.block⟩
    have hown1 : (W1.alloc (.cells #[.int .u32 (d : Nat)] 46)).ownsRow w.heap.size 46 1 (.slice (some ⟨w.heap.size, 0, none⟩) o.length (xs.length + 1)) o.length (L32 o) :=
      World.ownsRow.alloc (World.ownsRow.kept hS.own hg1 (.inr (by simp [Value.ownBlock]; omega))) _
    have hx0 := hS.box.kept hg1 (by intro e; injection e with e; omega)
    have hx2 := hS.fnc.kept hg1 (by intro e; injection e with e; omega)
    have hx1 : Boxed W1 (B + 1) 46 (.int .u32 (cz : Nat)) := by rw [← hW1]; exact Boxed.set (W := W.drew) _ hS.car
    have hxb : Below w.heap.size w W1 := hS.bel.grown hg1 hS.bel.size (fun k e => by injection e with e; omega)
    have hxW : Below w.heap.size W W1 := (Below.refl _ W).grown hg1 hS.bel.size (fun k e => by injection e with e; omega)
    have hko : KeepsOthers W W1 := by rw [← hW1]; exact (KeepsOthers.drew W).trans (KeepsOthers.setCell _ _ _)
    obtain ⟨W2, hrun, hown2, hgrow2⟩ := run_append_fits (P := Tryz.prog) (W1.alloc (.cells #[.int .u32 (d : Nat)] 46)) w.heap.size 22 22 46 i0 1 Tryz.underlying22 hi hz1 w.heap.size o.length (xs.length + 1) (L32 o) hown1
      ⟨W1.heap.size, 0, none⟩ 1 1 [.int .u32 (d : Nat)] rfl (by intro j u hj; cases j with | zero => simp at hj; subst hj; simp [Addr.add] | succ j => simp at hj) (by simp [Value.oneCell']) hol
    have hy0 := (hx0.alloc (.cells #[.int .u32 (d : Nat)] 46)).kept hgrow2 (by intro e; injection e with e; omega)
    have hy1 := (hx1.alloc (.cells #[.int .u32 (d : Nat)] 46)).kept hgrow2 (by intro e; injection e with e; omega)
    have hy2 := (hx2.alloc (.cells #[.int .u32 (d : Nat)] 46)).kept hgrow2 (by intro e; injection e with e; omega)
    have hyb : Below w.heap.size w W2 := (hxb.alloc hxb.size _).grown hgrow2 (by have := hxb.size; rw [World.size_alloc]; omega) (fun k e => by injection e with e; omega)
    have hyW : Below w.heap.size W W2 := (hxW.alloc hxb.size _).grown hgrow2 (by have := hxb.size; rw [World.size_alloc]; omega) (fun k e => by injection e with e; omega)
    have hkeep : ∀ k, k < W.heap.size → k ≠ B + 1 → k ≠ w.heap.size → W2.heap[k]? = W.heap[k]? := fun k h1 h2 h3 =>
      ((hgrow2.block k (by rw [World.size_alloc]; omega) (fun e => h3 (by injection e))).trans (Below.heap_alloc _ _ k (by omega))).trans (hg1.block k h1 (fun e => h2 (by injection e)))
    have hko2 : KeepsOthers W W2 := (hko.trans (KeepsOthers.alloc _ _)).trans (KeepsOthers.of_grownBy hgrow2 fun j ob ej hj => by
      cases ej
      rcases hown1.2 with ⟨h', _⟩ | ⟨g', cap', cur, h', _, hg, _⟩
      · cases h'
      · cases h'; rw [hg] at hj; cases hj; rfl)
    have hyc0 := hy0.cell
    have hxc0 := hx0.cell
    have hxc1 := (hx0.alloc (.cells #[.int .u32 (d : Nat)] 46)).cell
    have hyf0 := hy0.frozen
    have HW1 := Lib.hid hsz1
    obtain ⟨ht1, ht2, ht3⟩ := app_tok hrun
    clear hrun hW1 hsz1 hd hcz hg1 hlen
    gi_wp2
    gi_region_with_o ((refine ⟨trivial, ?_⟩; gi_at_call 83; refine (CallsIn.inRound l (callsIn_wide.2 hcall)).mono ?_; rintro e w' ⟨rfl, rfl⟩))
    all_goals gi_wp2
    all_goals
      have hsiz := hS.siz
      have hW2s := hko2.size
      have hset := grownBy_setCell' W2 B (.slice (some ⟨w.heap.size, 0, none⟩) (o.length + 1) (xs.length + 1))
      have hrow : (W2.setCell ⟨B, 0, none⟩ (.slice (some ⟨w.heap.size, 0, none⟩) (o.length + 1) (xs.length + 1))).ownsRow w.heap.size 46 1 (.slice (some ⟨w.heap.size, 0, none⟩) (o.length + 1) (xs.length + 1)) (o.length + 1) (L32 o ++ [.int .u32 (d : Nat)]) :=
        World.ownsRow.kept hown2 hset (.inr (by simp only [Value.ownBlock]; intro e; injection e with e; omega))
      refine ⟨(hko2.trans (KeepsOthers.setCell _ _ _)).from _, ⟨hyW.setCell (p := ⟨B, 0, none⟩) (Nat.le_of_lt hBw) _, ?_, ?_⟩, o ++ [d], cz, HA2.out, ?_, ?_, hy1.other (by omega) _, hy2.other (by omega) _, hyb.setCell (p := ⟨B, 0, none⟩) (Nat.le_of_lt hBw) _, ?_⟩
      · exact (hset.block (B + 3) (by omega) (fun e => by injection e with e; omega)).trans (hkeep (B + 3) (by omega) (by omega) (by omega))
      · exact (hset.block (B + 4) (by omega) (fun e => by injection e with e; omega)).trans (hkeep (B + 4) (by omega) (by omega) (by omega))
      · rw [List.length_append]; exact hy0.set _
      · unfold Own; rw [L32_append, List.length_append]; exact hrow
      · have := hset.size; omega
  case done =>
    rintro D l W hD hl ⟨o, cy, HA, hS⟩ hK
    have hb0 := hS.box.cell
    have hb1 := hS.car.cell
    have hf1 := hS.car.frozen
    have hb2 := hS.fnc.cell
    have hsiz := hS.siz
    have hmx : Tryz.prog.follows .mixedOrders = true := by kernel_rfl
    have hcy := HA.out.carry
    have hlen := HA.out.len
    have hdone := HA.out.done hl HL.out
    have hltl := snoc_lt HA.out.lt (show cy < 4294967296 by omega)
    have hol : o.length = xs.length := by rw [hlen]; have := congrArg List.length hl; simpa [pairsL] using this
    have hcall := adder1_calls W.drew 0 0 cy (B + 1) (by decide) (by decide) hcy hb1 hf1
    rw [show (0 + 0 + cy) % 4294967296 = cy by omega, show (0 + 0 + cy) / 4294967296 = 0 by omega, show (((0 : Nat)) : Int) = 0 from rfl] at hcall
    obtain ⟨W1, hW1⟩ : ∃ W1, W.drew.setCell ⟨B + 1, 0, none⟩ (.int .u32 0) = W1 := ⟨_, rfl⟩
    rw [hW1] at hcall
    have hsz1 : W1.heap.size = W.heap.size := by rw [← hW1]; simp [World.setCell]
    have hg1 : W.grownBy W1 (some (B + 1)) := by rw [← hW1]; have hq := grownBy_setCell' W.drew (B + 1) (.int .u32 0); exact ⟨hq.os, hq.tape, hq.output, hq.size, hq.block⟩
    have hown1 : (W1.alloc (.cells #[.int .u32 (cy : Nat)] 46)).ownsRow w.heap.size 46 1 (.slice (some ⟨w.heap.size, 0, none⟩) o.length (xs.length + 1)) o.length (L32 o) :=
      World.ownsRow.alloc (World.ownsRow.kept hS.own hg1 (.inr (by simp [Value.ownBlock]; omega))) _
    have hx0 := hS.box.kept hg1 (by intro e; injection e with e; omega)
    have hxb : Below w.heap.size w W1 := hS.bel.grown hg1 hS.bel.size (fun k e => by injection e with e; omega)
    have hko : KeepsOthers W W1 := by rw [← hW1]; exact (KeepsOthers.drew W).trans (KeepsOthers.setCell _ _ _)
    obtain ⟨W2, hrun, hown2, hgrow2⟩ := run_append_fits (P := Tryz.prog) (W1.alloc (.cells #[.int .u32 (cy : Nat)] 46)) w.heap.size 22 22 46 i0 1 Tryz.underlying22 hi hz1 w.heap.size o.length (xs.length + 1) (L32 o) hown1
      ⟨W1.heap.size, 0, none⟩ 1 1 [.int .u32 (cy : Nat)] rfl (by intro j u hj; cases j with | zero => simp at hj; subst hj; simp [Addr.add] | succ j => simp at hj) (by simp [Value.oneCell']) (by omega)
    have hyb : Below w.heap.size w W2 := (hxb.alloc hxb.size _).grown hgrow2 (by have := hxb.size; rw [World.size_alloc]; omega) (fun k e => by injection e with e; omega)
    have hko2 : KeepsOthers W W2 := (hko.trans (KeepsOthers.alloc _ _)).trans (KeepsOthers.of_grownBy hgrow2 fun j ob ej hj => by
      cases ej
      rcases hown1.2 with ⟨h', _⟩ | ⟨g', cap', cur, h', _, hg, _⟩
      · cases h'
      · cases h'; rw [hg] at hj; cases hj; rfl)
    have hK2 := hko2.same D _ hK rfl
    have hu : U W2 (.slice (some ⟨w.heap.size, 0, none⟩) (o.length + 1) (xs.length + 1)) (o ++ [cy]) := by
      refine Own.toU (base := w.heap.size) ?_ hltl (by rw [List.length_append, List.length_singleton]; omega)
      unfold Own; rw [L32_append, List.length_append]; exact hown2
    have hxc0 := hx0.cell
    have hxc1 := (hx0.alloc (.cells #[.int .u32 (cy : Nat)] 46)).cell
    obtain ⟨ht1, ht2, ht3⟩ := app_tok hrun
    have HD := Lib.hid hdone
    clear hrun hW1 hsz1 hg1 hlen hdone hol hl
    gi_wp2
    refine wpIn_normal ?_
    gi_region_with_o (first | (refine ⟨trivial, ?_⟩; gi_at_call 83; refine (callsIn_wide.2 hcall).mono ?_; rintro e w' ⟨rfl, rfl⟩) | (refine ⟨trivial, ?_⟩; gi_at_call 63; refine (callsIn_wide.2 (make_calls _ _ _ hu)).mono ?_; rintro e w' ⟨⟨z, rfl, hz⟩, rfl⟩))
    all_goals unfold NormalOnly
    all_goals gi_wp2
    all_goals
      refine ⟨by simp, .inl ⟨_, _, rfl, run_takeDeferred hK2, ?_⟩⟩
      refine ⟨_, results_tmp rfl _ _ _, ⟨_, rfl, ?_⟩, hyb.trans (belowK_b (w := w) (Nat.le_refl _) _ D _ _ (by omega) hK2 rfl rfl)⟩
      rw [HD.out] at hz
      exact hz.put hK2 rfl _
  case stop =>
    rintro D cc pre W hD _ h _
    exact h.elim

theorem nadd_calls (w : World) (v u : Value) (xs ys : List Nat) (h : U w v xs) (g : U w u ys) (hm : xs.length ≤ 1000000000) (hm2 : ys.length ≤ 1000000000) :
    Calls Tryz.prog 46 #[v, u] w fun e w' => (∃ z, e = .returned z ∧ Un w' z (val xs + val ys)) ∧ Below w.heap.size w w' := by
  rcases Nat.lt_or_ge xs.length ys.length with hl | hl
  · have := callsIn_wide.1 (add_lt w u v ys xs g h hl hm2)
    rwa [Nat.add_comm] at this
  · exact callsIn_wide.1 (add_ge w v u xs ys h g hl hm)
end Go.Proofs.YtigdflfhepelaaaGreatDoor
