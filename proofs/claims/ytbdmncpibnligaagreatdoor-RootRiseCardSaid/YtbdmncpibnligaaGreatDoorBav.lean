/- The document's own Add. -/
import Derived.Test.YtbdmncpibnligaaGreatDoorBar
import Derived.Test.YtbdmncpibnligaaGreatDoorBan
import Derived.Test.YtbdmncpibnligaaGreatDoorBau
import Derived.Test.YtbdmncpibnligaaGreatDoorBah

namespace Go.Proofs.YtbdmncpibnligaaGreatDoor
open Go.RowKit
set_option linter.unusedVariables false
set_option maxHeartbeats 400000
attribute [local go_sem ↓] app_shut
attribute [local go_sem] run_append_tok

/-- The value of the first k places. -/
def pv (xs : List Nat) (k : Nat) : Nat := val ((List.range k).map fun j => lb xs j)
theorem pv_zero (xs : List Nat) : pv xs 0 = 0 := rfl
theorem pv_succ (xs : List Nat) (k : Nat) : pv xs (k + 1) = pv xs k + lb xs k * 4294967296 ^ k := by
  unfold pv
  rw [List.range_succ, List.map_append, val_append]
  simp only [List.map_cons, List.map_nil, val, Nat.mul_zero, Nat.add_zero, List.length_map, List.length_range]
  rw [Nat.mul_comm]
theorem pv_all (xs : List Nat) (L : Nat) (h : xs.length ≤ L) : pv xs L = val xs := range_lb xs L h
theorem pv_lt (xs : List Nat) (k : Nat) (h : ∀ x ∈ xs, x < 4294967296) : pv xs k < 4294967296 ^ k := by
  have := val_lt ((List.range k).map fun j => lb xs j) (by intro x hx; obtain ⟨j, _, rfl⟩ := List.mem_map.1 hx; exact lb_lt h j)
  simpa [pv] using this
theorem val_snoc (o : List Nat) (x : Nat) : val (o ++ [x]) = val o + x * 4294967296 ^ o.length := by
  rw [val_append]; simp only [val, Nat.mul_zero, Nat.add_zero]; rw [Nat.mul_comm]

/-- The limbs of a sum so far, and what is carried. -/
structure RAdd (xs ys : List Nat) (k : Nat) (o : List Nat) (c : Nat) : Prop where
  len : o.length = k
  lt : ∀ x ∈ o, x < 4294967296
  carry : c ≤ 1
  val_eq : val o + c * 4294967296 ^ k = pv xs k + pv ys k
theorem RAdd.start (xs ys : List Nat) : RAdd xs ys 0 [] 0 := ⟨rfl, by simp, by omega, rfl⟩
theorem RAdd.step {xs ys : List Nat} {k : Nat} {o : List Nat} {c : Nat} (h : RAdd xs ys k o c) (hx : ∀ x ∈ xs, x < 4294967296) (hy : ∀ x ∈ ys, x < 4294967296) :
    RAdd xs ys (k + 1) (o ++ [(lb xs k + lb ys k + c) % 4294967296]) ((lb xs k + lb ys k + c) / 4294967296) := by
  have h1 := lb_lt hx k
  have h2 := lb_lt hy k
  have h3 := h.carry
  refine ⟨by simp [h.len], snoc_lt h.lt (Nat.mod_lt _ (by decide)), by omega, ?_⟩
  rw [val_snoc, pv_succ, pv_succ, h.len, Nat.pow_succ]
  have e := h.val_eq
  generalize 4294967296 ^ k = B at *
  generalize lb xs k = p at *
  generalize lb ys k = q at *
  have e4 : (p + q + c) * B = (p + q + c) % 4294967296 * B + (p + q + c) / 4294967296 * 4294967296 * B := by
    conv => lhs; rw [show p + q + c = (p + q + c) % 4294967296 + (p + q + c) / 4294967296 * 4294967296 by omega]
    rw [Nat.add_mul]
  rw [Nat.add_mul, Nat.add_mul] at e4
  have e5 : (p + q + c) / 4294967296 * (B * 4294967296) = (p + q + c) / 4294967296 * 4294967296 * B := by
    rw [Nat.mul_comm B 4294967296, ← Nat.mul_assoc]
  rw [e5]
  omega
theorem RAdd.done {xs ys : List Nat} {k : Nat} {o : List Nat} {c : Nat} (h : RAdd xs ys (k + 1) o c) (hx : ∀ x ∈ xs, x < 4294967296) (hy : ∀ x ∈ ys, x < 4294967296) (h1 : xs.length ≤ k) (h2 : ys.length ≤ k) :
    val o = val xs + val ys := by
  have e := h.val_eq
  have a1 := pv_lt xs k hx
  have a2 := pv_lt ys k hy
  rw [pv_all xs _ (by omega)] at e a1
  rw [pv_all ys _ (by omega)] at e a2
  have h3 := h.carry
  rw [Nat.pow_succ] at e
  have hB : 0 < 4294967296 ^ k := Nat.pow_pos (by decide)
  generalize 4294967296 ^ k = B at *
  have : c = 0 ∨ c = 1 := by omega
  rcases this with rfl | rfl <;> omega

/-- One limb more. -/
theorem zpush_own {w0 w : World} (hB : Below w0.heap.size w0 w) {v : Value} {o : List Nat} (hown : Own w w0.heap.size v o) (z : Int) (x : Nat) (hz : z = (x : Int)) (hx : x < 4294967296) (hlen : o.length + 1 ≤ 35184372088832) :
    ∃ v' w', (Builtin.append_ #[22, 22] 22 #[v, .slice (some ⟨w.heap.size, 0, none⟩) 1 1]).run Tryz.prog (w.alloc (.cells #[.int .u32 z] 36)) = .ok v' w' ∧ Own w' w0.heap.size v' (o ++ [x]) ∧ Below w0.heap.size w0 w' := by
  subst hz
  have hu : U (w.alloc (.cells #[.int .u32 (x : Int)] 36)) (.slice (some ⟨w.heap.size, 0, none⟩) 1 1) [x] := U_lit w [x] (by simpa using hx) (by simp)
  have hB1 := hB.alloc hB.size (.cells #[.int .u32 (x : Int)] 36)
  obtain ⟨v', w', hrun, ho, hg⟩ := run_append_U _ w0.heap.size _ o (World.ownsRow.alloc hown _) _ _ hu (by simpa using hlen) hB1.size
  exact ⟨v', w', hrun, ho, hB1.grown hg hB1.size (fun j e => (World.ownsRow.lt hown j e).1)⟩

set_option maxRecDepth 100000 in
theorem radd_calls (w : World) (v u : Value) (xs ys : List Nat) (h : U w v xs) (g : U w u ys) (hl : xs.length ≤ 100000000) (hl2 : ys.length ≤ 100000000) :
    Calls Tryz.prog 23 #[v, u] w fun e w' => (∃ z, e = .returned z ∧ U w' z (limbs (val xs + val ys))) ∧ Below w.heap.size w w' := by
  obtain ⟨A, c, rfl, ⟨hc, hm⟩, hx, hr⟩ := id h
  obtain ⟨A2, c2, rfl, ⟨hc2, hm2⟩, hx2, hr2⟩ := id g
  clear hr hr2
  go_enter Tryz.func23, Tryz.ntmps23
  go_wp2_with (fail)
  have hown0 : Own (w.alloc (.cells #[] 36)) w.heap.size (.slice (some ⟨w.heap.size, 0, none⟩) 0 0) [] := World.ownsRow_lit w #[] 0 (Nat.le_refl _) (Nat.zero_le _) rfl
  have hB0 : Below w.heap.size w (w.alloc (.cells #[] 36)) := (Below.refl _ _).alloc (Nat.le_refl _) _
  go_loopw [5, 6, 7] (fun s cv i wr => ∃ (k cy : Nat) (o : List Nat), k ≤ max xs.length ys.length + 1 ∧ i = .int .i64 k ∧ cv = .int .u64 cy ∧ Hid (RAdd xs ys k o cy) ∧ Own wr w.heap.size s o ∧ Below w.heap.size w wr) (fun _ _ i _ => max xs.length ys.length + 2 - (intOf i).toNat)
  case atStart => exact ⟨0, 0, [], Nat.zero_le _, rfl, rfl, RAdd.start xs ys, hown0, hB0⟩
  case round =>
    clear hown0 hB0
    obtain ⟨k, cy, o, hk, rfl, rfl, HO, hown, hB⟩ := hrel
    by_cases hd1 : k ≤ xs.length
    · have h1 := lb_lt hx k
      have h2 := lb_lt hx2 k
      have h3 := HO.out.carry
      have hlen := HO.out.len
      obtain ⟨x1, hx1⟩ : ∃ x1, (lb xs k + lb ys k + cy) % 4294967296 = x1 := ⟨_, rfl⟩
      obtain ⟨c1, hc1⟩ : ∃ c1, (lb xs k + lb ys k + cy) / 4294967296 = c1 := ⟨_, rfl⟩
      have HO2 : Hid (RAdd xs ys (k + 1) (o ++ [x1]) c1) := by rw [Hid, ← hx1, ← hc1]; exact HO.out.step hx hx2
      obtain ⟨v', w', hrun, hown', hB'⟩ := zpush_own hB hown ((((lb xs k : Nat) : Int) + ((lb ys k : Nat) : Int) + (cy : Int)) % 4294967296) x1 (by rw [← hx1]; omega) (by rw [← hx1]; exact Nat.mod_lt _ (by decide)) (by omega)
      obtain ⟨t1, t2, t3⟩ := app_tok hrun
      have hk2 : k + 1 ≤ max xs.length ys.length + 1 := by omega
      have HC1 : Hid ((((lb xs k : Nat) : Int) + ((lb ys k : Nat) : Int) + (cy : Int)) / 4294967296 = (c1 : Int)) := by rw [Hid, ← hc1]; omega
      clear hrun hx1 hc1 hlen
      go_wp2_with (fail)
      refine (rlimb_at _ _ xs _ k rfl (h.below hB)).mono ?_
      rintro e w' ⟨rfl, rfl⟩
      go_wp2_with (fail)
      refine (rlimb_at _ _ ys _ k rfl (g.below hB)).mono ?_
      rintro e w' ⟨rfl, rfl⟩
      go_wp2_with (fail)
      go_roundw
      case rel => exact ⟨k + 1, c1, _, hk2, by go_num, by rw [HC1.out], HO2, hown', hB'⟩
      case measure => simp [intOf]; omega
    · by_cases hd2 : k ≤ ys.length
      · have h1 := lb_lt hx k
        have h2 := lb_lt hx2 k
        have h3 := HO.out.carry
        have hlen := HO.out.len
        obtain ⟨x1, hx1⟩ : ∃ x1, (lb xs k + lb ys k + cy) % 4294967296 = x1 := ⟨_, rfl⟩
        obtain ⟨c1, hc1⟩ : ∃ c1, (lb xs k + lb ys k + cy) / 4294967296 = c1 := ⟨_, rfl⟩
        have HO2 : Hid (RAdd xs ys (k + 1) (o ++ [x1]) c1) := by rw [Hid, ← hx1, ← hc1]; exact HO.out.step hx hx2
        obtain ⟨v', w', hrun, hown', hB'⟩ := zpush_own hB hown ((((lb xs k : Nat) : Int) + ((lb ys k : Nat) : Int) + (cy : Int)) % 4294967296) x1 (by rw [← hx1]; omega) (by rw [← hx1]; exact Nat.mod_lt _ (by decide)) (by omega)
        obtain ⟨t1, t2, t3⟩ := app_tok hrun
        have hk2 : k + 1 ≤ max xs.length ys.length + 1 := by omega
        have HC1 : Hid ((((lb xs k : Nat) : Int) + ((lb ys k : Nat) : Int) + (cy : Int)) / 4294967296 = (c1 : Int)) := by rw [Hid, ← hc1]; omega
        clear hrun hx1 hc1 hlen
        go_wp2_with (fail)
        refine (rlimb_at _ _ xs _ k rfl (h.below hB)).mono ?_
        rintro e w' ⟨rfl, rfl⟩
        go_wp2_with (fail)
        refine (rlimb_at _ _ ys _ k rfl (g.below hB)).mono ?_
        rintro e w' ⟨rfl, rfl⟩
        go_wp2_with (fail)
        go_roundw
        case rel => exact ⟨k + 1, c1, _, hk2, by go_num, by rw [HC1.out], HO2, hown', hB'⟩
        case measure => simp [intOf]; omega
      · have hlen := HO.out.len
        obtain ⟨j, rfl⟩ : ∃ j, k = j + 1 := ⟨k - 1, by omega⟩
        have HV : Hid (val o = val xs + val ys) := HO.out.done hx hx2 (by omega) (by omega)
        have hu := hown.toU HO.out.lt (by omega)
        have hol : o.length ≤ 1000000000 := by omega
        clear hlen
        go_wp2_with (fail)
        refine (rmake_calls _ _ _ hu hol).mono ?_
        rintro e w' ⟨⟨z, rfl, hz⟩, hB2⟩
        rw [HV.out] at hz
        replace hB := Below.trans hB (Below.mono hB2 hB.size)
        go_wp2
        go_ret
        exact ⟨⟨_, rfl, hz⟩, hB⟩
end Go.Proofs.YtbdmncpibnligaaGreatDoor
/- The document's own Sub. -/
namespace Go.Proofs.YtbdmncpibnligaaGreatDoor
open Go.RowKit
set_option linter.unusedVariables false
set_option maxHeartbeats 400000
attribute [local go_sem ↓] app_shut
attribute [local go_sem] run_append_tok

/-- The limbs of a difference so far, and what is borrowed. -/
structure RSub (xs ys : List Nat) (k : Nat) (o : List Nat) (c : Nat) : Prop where
  len : o.length = k
  lt : ∀ x ∈ o, x < 4294967296
  carry : c ≤ 1
  val_eq : val o + pv ys k = pv xs k + c * 4294967296 ^ k
theorem RSub.start (xs ys : List Nat) : RSub xs ys 0 [] 0 := ⟨rfl, by simp, by omega, rfl⟩
theorem RSub.step {xs ys : List Nat} {k : Nat} {o : List Nat} {c : Nat} (h : RSub xs ys k o c) (hx : ∀ x ∈ xs, x < 4294967296) (hy : ∀ x ∈ ys, x < 4294967296) :
    RSub xs ys (k + 1) (o ++ [(4294967296 + lb xs k - lb ys k - c) % 4294967296]) (1 - (4294967296 + lb xs k - lb ys k - c) / 4294967296) := by
  have h1 := lb_lt hx k
  have h2 := lb_lt hy k
  have h3 := h.carry
  refine ⟨by simp [h.len], snoc_lt h.lt (Nat.mod_lt _ (by decide)), by omega, ?_⟩
  rw [val_snoc, pv_succ, pv_succ, h.len, Nat.pow_succ]
  have e := h.val_eq
  generalize 4294967296 ^ k = B at *
  generalize lb xs k = p at *
  generalize lb ys k = q at *
  obtain ⟨d, hd⟩ : ∃ d, (4294967296 + p - q - c) % 4294967296 = d := ⟨_, rfl⟩
  obtain ⟨f, hf⟩ : ∃ f, 1 - (4294967296 + p - q - c) / 4294967296 = f := ⟨_, rfl⟩
  have e3 : d + q + c = p + f * 4294967296 := by omega
  rw [hd, hf]
  have e4 : (d + q + c) * B = (p + f * 4294967296) * B := by rw [e3]
  rw [Nat.add_mul, Nat.add_mul, Nat.add_mul] at e4
  have e5 : f * (B * 4294967296) = f * 4294967296 * B := by
    rw [Nat.mul_comm B 4294967296, ← Nat.mul_assoc]
  rw [e5]
  omega
theorem RSub.done {xs ys : List Nat} {o : List Nat} {c : Nat} (h : RSub xs ys xs.length o c) (hl : ys.length ≤ xs.length) (hge : val ys ≤ val xs) : val o = val xs - val ys := by
  have e := h.val_eq
  rw [pv_all xs _ (Nat.le_refl _), pv_all ys _ hl] at e
  have hlt := val_lt o h.lt
  rw [h.len] at hlt
  have hc := h.carry
  generalize 4294967296 ^ xs.length = B at *
  have : c = 0 ∨ c = 1 := by omega
  rcases this with rfl | rfl <;> omega

set_option maxRecDepth 100000 in
theorem rsub_calls (w : World) (v u : Value) (n m : Nat) (h : Un w v n) (g : Un w u m) (hl : (limbs n).length ≤ 100000000) (hl2 : (limbs m).length ≤ 100000000) (b : Bool) (hb : decide (m ≤ n) = b) (d : Nat) (hd : n - m = d) :
    Calls Tryz.prog 28 #[v, u] w fun e w' => (∃ z, e = .returned (.tuple #[z, .bool b]) ∧ Un w' z d) ∧ Below w.heap.size w w' := by
  obtain ⟨A, c, rfl, ⟨hc, hm⟩, hx, hr⟩ := id h
  obtain ⟨A2, c2, rfl, ⟨hc2, hm2⟩, hx2, hr2⟩ := id g
  clear hr hr2
  rcases Nat.lt_or_ge n m with hlt | hge
  · have HF : Hid (cmpI (val (limbs n) : Nat) (val (limbs m) : Nat) = -1) := by rw [Hid, val_limbs, val_limbs]; exact cmpI_lt (Int.ofNat_lt.2 hlt)
    obtain rfl : d = 0 := by omega
    obtain rfl : b = false := by rw [← hb, decide_eq_false_iff_not]; omega
    clear hb hd hlt
    go_enter Tryz.func28, Tryz.ntmps28
    go_wp2_with (fail)
    refine (rcmp_calls _ _ _ _ _ h g (by omega) (by omega)).mono ?_
    rintro e w' ⟨rfl, rfl⟩
    rw [HF.out]
    go_wp2
    go_ret2
    exact ⟨⟨_, rfl, Un_nil _⟩, Below.refl _ _⟩
  · have HF : Hid (0 ≤ cmpI (val (limbs n) : Nat) (val (limbs m) : Nat)) := by
      rw [Hid, val_limbs, val_limbs]
      rcases Nat.lt_or_ge m n with h1 | h1
      · rw [cmpI_gt (Int.ofNat_lt.2 h1)]; decide
      · obtain rfl : n = m := by omega
        rw [cmpI_eq]; decide
    obtain rfl : b = true := by rw [← hb, decide_eq_true_iff]; omega
    have HD := Lib.hid hd
    have HG := Lib.hid hge
    have hll := len_mono hge
    clear hb hd hge
    obtain ⟨K, hK⟩ : ∃ K, cmpI (val (limbs n) : Nat) (val (limbs m) : Nat) = K := ⟨_, rfl⟩
    have hK0 : 0 ≤ K := by rw [← hK]; exact HF.out
    clear HF
    go_enter Tryz.func28, Tryz.ntmps28
    go_wp2_with (fail)
    refine (rcmp_calls _ _ _ _ _ h g (by omega) (by omega)).mono ?_
    rintro e w' ⟨rfl, rfl⟩
    rw [hK]
    clear hK
    go_wp2_with (fail)
    have hown0 : Own (w.alloc (.cells #[] 36)) w.heap.size (.slice (some ⟨w.heap.size, 0, none⟩) 0 0) [] := World.ownsRow_lit w #[] 0 (Nat.le_refl _) (Nat.zero_le _) rfl
    have hB0 : Below w.heap.size w (w.alloc (.cells #[] 36)) := (Below.refl _ _).alloc (Nat.le_refl _) _
    go_loopw [6, 7, 8] (fun s cv i wr => ∃ (k cy : Nat) (o : List Nat), k ≤ (limbs n).length ∧ i = .int .i64 k ∧ cv = .int .u64 cy ∧ Hid (RSub (limbs n) (limbs m) k o cy) ∧ Own wr w.heap.size s o ∧ Below w.heap.size w wr) (fun _ _ i _ => (limbs n).length - (intOf i).toNat)
    case atStart => exact ⟨0, 0, [], Nat.zero_le _, rfl, rfl, RSub.start _ _, hown0, hB0⟩
    case round =>
      clear hown0 hB0
      obtain ⟨k, cy, o, hk, rfl, rfl, HO, hown, hB⟩ := hrel
      by_cases hd1 : k < (limbs n).length
      · have h1 := lb_lt hx k
        have h2 := lb_lt hx2 k
        have h3 := HO.out.carry
        have hlen := HO.out.len
        obtain ⟨x1, hx1⟩ : ∃ x1, (4294967296 + lb (limbs n) k - lb (limbs m) k - cy) % 4294967296 = x1 := ⟨_, rfl⟩
        obtain ⟨c1, hc1⟩ : ∃ c1, 1 - (4294967296 + lb (limbs n) k - lb (limbs m) k - cy) / 4294967296 = c1 := ⟨_, rfl⟩
        have HO2 : Hid (RSub (limbs n) (limbs m) (k + 1) (o ++ [x1]) c1) := by rw [Hid, ← hx1, ← hc1]; exact HO.out.step hx hx2
        obtain ⟨v', w', hrun, hown', hB'⟩ := zpush_own hB hown ((4294967296 + ((lb (limbs n) k : Nat) : Int) - ((lb (limbs m) k : Nat) : Int) - (cy : Int)) % 4294967296) x1 (by rw [← hx1]; omega) (by rw [← hx1]; exact Nat.mod_lt _ (by decide)) (by omega)
        obtain ⟨t1, t2, t3⟩ := app_tok hrun
        have HC1 : Hid (1 - (4294967296 + ((lb (limbs n) k : Nat) : Int) - ((lb (limbs m) k : Nat) : Int) - (cy : Int)) / 4294967296 = (c1 : Int)) := by rw [Hid, ← hc1]; omega
        clear hrun hx1 hc1 hlen
        go_wp2_with (fail)
        refine (rlimb_at _ _ (limbs n) _ k rfl (U.below h hB)).mono ?_
        rintro e w' ⟨rfl, rfl⟩
        go_wp2_with (fail)
        refine (rlimb_at _ _ (limbs m) _ k rfl (U.below g hB)).mono ?_
        rintro e w' ⟨rfl, rfl⟩
        go_wp2_with (fail)
        go_roundw
        case rel => exact ⟨k + 1, c1, _, by omega, by go_num, by rw [HC1.out], HO2, hown', hB'⟩
        case measure => simp [intOf]; omega
      · have hlen := HO.out.len
        obtain rfl : k = (limbs n).length := by omega
        have HV : Hid (val o = d) := by rw [Hid, HO.out.done hll (by rw [val_limbs, val_limbs]; exact HG.out), val_limbs, val_limbs]; exact HD.out
        have hu := hown.toU HO.out.lt (by omega)
        have hol : o.length ≤ 1000000000 := by omega
        clear hlen
        go_wp2_with (fail)
        refine (rmake_calls _ _ _ hu hol).mono ?_
        rintro e w' ⟨⟨z, rfl, hz⟩, hB2⟩
        have hz2 : Un w' z d := by rw [← HV.out]; exact hz
        replace hB := Below.trans hB (Below.mono hB2 hB.size)
        clear hz
        go_wp2
        go_ret2
        exact ⟨⟨_, rfl, hz2⟩, hB⟩
end Go.Proofs.YtbdmncpibnligaaGreatDoor
/- The document's own Shl. -/
namespace Go.Proofs.YtbdmncpibnligaaGreatDoor
open Go.RowKit
set_option linter.unusedVariables false
set_option maxHeartbeats 400000
attribute [local go_sem ↓] app_shut
attribute [local go_sem] run_append_tok

/-- The limbs of a number times P, behind q noughts, so far, and what is carried. -/
structure RShl (xs : List Nat) (q P k : Nat) (o : List Nat) (c : Nat) : Prop where
  len : o.length = q + k
  lt : ∀ x ∈ o, x < 4294967296
  carry : c < P
  val_eq : val o + c * 4294967296 ^ (q + k) = pv xs k * P * 4294967296 ^ q
theorem RShl.start (xs : List Nat) (q P : Nat) (hP : 0 < P) : RShl xs q P 0 (List.replicate q 0) 0 :=
  ⟨by simp, by intro x hx; have := List.eq_of_mem_replicate hx; omega, hP, by rw [val_replicate_zero, pv_zero]; simp⟩
theorem RShl.step {xs : List Nat} {q P k : Nat} {o : List Nat} {c : Nat} (h : RShl xs q P k o c) (hx : ∀ x ∈ xs, x < 4294967296) :
    RShl xs q P (k + 1) (o ++ [(lb xs k * P + c) % 4294967296]) ((lb xs k * P + c) / 4294967296) := by
  have h1 := lb_lt hx k
  have h3 := h.carry
  have h4 : lb xs k * P + c < 4294967296 * P := by
    have := Nat.mul_le_mul_right P (show lb xs k + 1 ≤ 4294967296 by omega)
    rw [Nat.add_mul] at this; omega
  refine ⟨by simp [h.len]; omega, snoc_lt h.lt (Nat.mod_lt _ (by decide)), by rw [Nat.div_lt_iff_lt_mul (by decide), Nat.mul_comm P]; exact h4, ?_⟩
  rw [val_snoc, pv_succ, h.len, ← Nat.add_assoc, Nat.pow_succ, Nat.pow_add 4294967296 q k]
  have e := h.val_eq
  rw [Nat.pow_add] at e
  generalize 4294967296 ^ k = B at *
  generalize 4294967296 ^ q = C at *
  obtain ⟨X, hX⟩ : ∃ X, lb xs k * P + c = X := ⟨_, rfl⟩
  have e3 : X = X % 4294967296 + X / 4294967296 * 4294967296 := by omega
  have e4 : X * (C * B) = X % 4294967296 * (C * B) + X / 4294967296 * (C * B * 4294967296) := by
    conv => lhs; rw [e3]
    rw [Nat.add_mul, Nat.mul_assoc (X / 4294967296), Nat.mul_comm 4294967296]
  have e5 : X * (C * B) = lb xs k * P * (C * B) + c * (C * B) := by rw [← hX, Nat.add_mul]
  have e6 : lb xs k * P * (C * B) = lb xs k * B * P * C := by
    rw [Nat.mul_comm C B, ← Nat.mul_assoc, Nat.mul_right_comm (lb xs k) P B]
  rw [hX, Nat.add_mul, Nat.add_mul]
  omega
theorem RShl.done {xs : List Nat} {q P k : Nat} {o : List Nat} {c : Nat} (h : RShl xs q P (k + 1) o c) (hx : ∀ x ∈ xs, x < 4294967296) (h1 : xs.length ≤ k) (hP : P < 4294967296) :
    val o = val xs * P * 4294967296 ^ q := by
  have e := h.val_eq
  have a1 := pv_lt xs k hx
  rw [pv_all xs _ (by omega)] at e a1
  have hc : c = 0 := by
    rcases Nat.eq_zero_or_pos c with h0 | h0
    · exact h0
    · exfalso
      have b1 : 4294967296 ^ (q + (k + 1)) ≤ c * 4294967296 ^ (q + (k + 1)) := Nat.le_mul_of_pos_left _ h0
      have b2 : val xs * P < 4294967296 ^ (k + 1) := by
        rw [Nat.pow_succ]
        exact Nat.mul_lt_mul'' a1 hP
      have b3 : val xs * P * 4294967296 ^ q < 4294967296 ^ (k + 1) * 4294967296 ^ q := Nat.mul_lt_mul_of_pos_right b2 (Nat.pow_pos (by decide))
      rw [← Nat.pow_add, Nat.add_comm (k + 1) q] at b3
      omega
  subst hc
  omega

set_option maxRecDepth 100000 in
theorem rshl_calls (w : World) (v : Value) (n : Nat) (k0 : Nat) (hk : k0 ≤ 100000000) (h : Un w v n) (hl : (limbs n).length ≤ 100000000) :
    Calls Tryz.prog 27 #[v, .int .i64 (k0 : Int)] w fun e w' => (∃ u, e = .returned u ∧ Un w' u (n * 2 ^ k0)) ∧ Below w.heap.size w w' := by
  obtain ⟨A, c, rfl, ⟨hc, hm⟩, hx, hr⟩ := id h
  clear hr
  obtain ⟨Q, hQ⟩ : ∃ Q, k0 / 32 = Q := ⟨_, rfl⟩
  obtain ⟨S, hS⟩ : ∃ S, k0 % 32 = S := ⟨_, rfl⟩
  have eQ : (k0 : Int) / 32 = (Q : Int) := by omega
  have eS : (k0 : Int) % 32 = (S : Int) := by omega
  have HK : Hid (k0 = 32 * Q + S) := by rw [Hid]; omega
  have hS32 : S < 32 := by omega
  have hQ1 : Q ≤ 100000000 := by omega
  go_enter Tryz.func27, Tryz.ntmps27
  go_wp2_with (fail)
  have hown0 : Own (w.alloc (.cells #[] 36)) w.heap.size (.slice (some ⟨w.heap.size, 0, none⟩) 0 0) [] := World.ownsRow_lit w #[] 0 (Nat.le_refl _) (Nat.zero_le _) rfl
  have hB0 : Below w.heap.size w (w.alloc (.cells #[] 36)) := (Below.refl _ _).alloc (Nat.le_refl _) _
  go_loopw [5, 8] (fun s i wr => ∃ k : Nat, k ≤ Q ∧ i = .int .i64 k ∧ Own wr w.heap.size s (List.replicate k 0) ∧ Below w.heap.size w wr) (fun _ i _ => Q - (intOf i).toNat)
  case atStart => exact ⟨0, Nat.zero_le _, rfl, hown0, hB0⟩
  case round =>
    clear hown0 hB0
    obtain ⟨k, hk1, rfl, hown, hB⟩ := hrel
    by_cases hd1 : k < Q
    · obtain ⟨v', w', hrun, hown', hB'⟩ := zpush_own hB hown 0 0 rfl (by decide) (by simp; omega)
      obtain ⟨t1, t2, t3⟩ := app_tok hrun
      rw [← List.replicate_succ'] at hown'
      clear hrun
      go_wp2
      go_roundw
      case rel => exact ⟨k + 1, by omega, by go_num, hown', hB'⟩
      case measure => simp [intOf]; omega
    · obtain rfl : k = Q := by omega
      go_wp2_with (fail)
      go_loop [7, 9] (fun b i => ∃ j : Nat, j ≤ S ∧ i = .int .i64 j ∧ b = .int .u64 (2 ^ j : Nat)) (fun _ i => S - (intOf i).toNat)
      case atStart => exact ⟨0, Nat.zero_le _, rfl, rfl⟩
      case round =>
        obtain ⟨j, hj, rfl, rfl⟩ := hrel
        have hp1 : 2 ^ j < 4294967296 := Nat.lt_of_le_of_lt (Nat.pow_le_pow_right (by decide) (show j ≤ 31 by omega)) (by decide)
        by_cases hd2 : j < S
        · have HN : Hid (2 * ((2 ^ j : Nat) : Int) = ((2 ^ (j + 1) : Nat) : Int)) := by rw [Hid, Nat.pow_succ]; omega
          obtain ⟨X, hX⟩ : ∃ X, 2 ^ j = X := ⟨_, rfl⟩
          rw [hX] at HN hp1
          rw [hX]
          clear hX
          go_wp2
          go_round
          case rel => exact ⟨j + 1, by omega, by go_num, by rw [← HN.out]⟩
          case measure => simp [intOf]; omega
        · obtain rfl : j = S := by omega
          have hp0 : 0 < 2 ^ j := Nat.two_pow_pos j
          have HV0 : Hid (n * 2 ^ k0 = n * 2 ^ j * 4294967296 ^ k) := by
            rw [Hid, HK.out, pow32, Nat.pow_add, Nat.mul_comm (2 ^ (32 * k)), ← Nat.mul_assoc]
          obtain ⟨P, hP⟩ : ∃ P, 2 ^ j = P := ⟨_, rfl⟩
          rw [hP] at hp0 hp1 HV0
          rw [hP]
          clear hP
          go_wp2_with (fail)
          have HO0 : Hid (RShl (limbs n) k P 0 (List.replicate k 0) 0) := RShl.start _ _ _ hp0
          go_loopw [5, 6, 10] (fun s cv i wr => ∃ (m cy : Nat) (o : List Nat), m ≤ (limbs n).length + 1 ∧ i = .int .i64 m ∧ cv = .int .u64 cy ∧ Hid (RShl (limbs n) k P m o cy) ∧ Own wr w.heap.size s o ∧ Below w.heap.size w wr) (fun _ _ i _ => (limbs n).length + 1 - (intOf i).toNat)
          case atStart => exact ⟨0, 0, _, Nat.zero_le _, rfl, rfl, HO0, hown, hB⟩
          case round =>
            clear HO0 hown hB
            obtain ⟨m, cy, o, hm1, rfl, rfl, HO, hown, hB⟩ := hrel
            have hlen := HO.out.len
            by_cases hd3 : m ≤ (limbs n).length
            · have h1 := lb_lt hx m
              have h3 := HO.out.carry
              have h4 : lb (limbs n) m * P + cy < 4294967296 * P := by
                have := Nat.mul_le_mul_right P (show lb (limbs n) m + 1 ≤ 4294967296 by omega)
                rw [Nat.add_mul] at this; omega
              have e1 : ((lb (limbs n) m : Nat) : Int) * (P : Int) = ((lb (limbs n) m * P : Nat) : Int) := by rw [Int.natCast_mul]
              have hm3 : ((lb (limbs n) m : Nat) : Int) * (P : Int) + (cy : Int) < 18446744073709551616 := by rw [e1]; omega
              have hm4 : 0 ≤ ((lb (limbs n) m : Nat) : Int) * (P : Int) := by rw [e1]; omega
              obtain ⟨x1, hx1⟩ : ∃ x1, (lb (limbs n) m * P + cy) % 4294967296 = x1 := ⟨_, rfl⟩
              obtain ⟨c1, hc1⟩ : ∃ c1, (lb (limbs n) m * P + cy) / 4294967296 = c1 := ⟨_, rfl⟩
              have HO2 : Hid (RShl (limbs n) k P (m + 1) (o ++ [x1]) c1) := by rw [Hid, ← hx1, ← hc1]; exact HO.out.step hx
              obtain ⟨v', w', hrun, hown', hB'⟩ := zpush_own hB hown ((((lb (limbs n) m : Nat) : Int) * (P : Int) + (cy : Int)) % 4294967296) x1 (by rw [← hx1, e1]; omega) (by rw [← hx1]; exact Nat.mod_lt _ (by decide)) (by omega)
              obtain ⟨t1, t2, t3⟩ := app_tok hrun
              have HC1 : Hid ((((lb (limbs n) m : Nat) : Int) * (P : Int) + (cy : Int)) / 4294967296 = (c1 : Int)) := by rw [Hid, ← hc1, e1]; omega
              clear hrun hx1 hc1 hlen e1 h4
              go_wp2_with (fail)
              refine (rlimb_at _ _ (limbs n) _ m rfl (U.below h hB)).mono ?_
              rintro e w' ⟨rfl, rfl⟩
              go_wp2_with (fail)
              go_roundw
              case rel => exact ⟨m + 1, c1, _, by omega, by go_num, by rw [HC1.out], HO2, hown', hB'⟩
              case measure => simp [intOf]; omega
            · obtain rfl : m = (limbs n).length + 1 := by omega
              have HV : Hid (val o = n * 2 ^ k0) := by rw [Hid, HO.out.done hx (Nat.le_refl _) hp1, val_limbs, HV0.out]
              have hu := hown.toU HO.out.lt (by omega)
              have hol : o.length ≤ 1000000000 := by omega
              clear hlen
              go_wp2_with (fail)
              refine (rmake_calls _ _ _ hu hol).mono ?_
              rintro e w' ⟨⟨z, rfl, hz⟩, hB2⟩
              have hz2 : Un w' z (n * 2 ^ k0) := by rw [← HV.out]; exact hz
              replace hB := Below.trans hB (Below.mono hB2 hB.size)
              clear hz
              go_wp2
              go_ret
              exact ⟨⟨_, rfl, hz2⟩, hB⟩
end Go.Proofs.YtbdmncpibnligaaGreatDoor
/- The document's own Shr. -/
namespace Go.Proofs.YtbdmncpibnligaaGreatDoor
open Go.RowKit
set_option linter.unusedVariables false
set_option maxHeartbeats 400000
attribute [local go_sem ↓] app_shut
attribute [local go_sem] run_append_tok

theorem val_digits (o : List Nat) (N : Nat) (h : ∀ j, j < o.length → lb o j = N / 4294967296 ^ j % 4294967296) : val o = N % 4294967296 ^ o.length := by
  have key : ∀ j, j ≤ o.length → val (o.take j) = N % 4294967296 ^ j := by
    intro j
    induction j with
    | zero => intro _; simp [val, Nat.mod_one]
    | succ j ih =>
      intro hj
      rw [val_take_succ o j (by omega), ih (by omega), h j (by omega), Nat.mod_pow_succ, Nat.mul_comm]
  have := key o.length (Nat.le_refl _)
  rwa [List.take_length] at this

theorem shr_digit (n q S k : Nat) (hS : S < 32) :
    (lb (limbs n) (q + k) + 4294967296 * (lb (limbs n) (q + k + 1) % 2 ^ S)) / 2 ^ S % 4294967296 = n / 2 ^ (32 * q + S) / 4294967296 ^ k % 4294967296 := by
  rw [lb_limbs, lb_limbs]
  have e1 : n / 2 ^ (32 * q + S) / 4294967296 ^ k = n / 4294967296 ^ (q + k) / 2 ^ S := by
    rw [Nat.div_div_eq_div_mul, Nat.div_div_eq_div_mul, Nat.pow_add 2, ← pow32, Nat.pow_add 4294967296, Nat.mul_right_comm]
  have e2 : n / 4294967296 ^ (q + k + 1) = n / 4294967296 ^ (q + k) / 4294967296 := by
    rw [Nat.pow_succ, Nat.div_div_eq_div_mul]
  rw [e1, e2]
  generalize n / 4294967296 ^ (q + k) = V
  have hd : 2 ^ S ∣ 4294967296 := ⟨2 ^ (32 - S), by rw [← Nat.pow_add, show S + (32 - S) = 32 by omega]⟩
  rw [Nat.mod_mod_of_dvd _ hd]
  have hp : 0 < 2 ^ S := Nat.two_pow_pos S
  generalize 2 ^ S = P at *
  have e3 : V = V % 4294967296 + 4294967296 * (V / 4294967296 % P) + P * (4294967296 * (V / 4294967296 / P)) := by
    have a1 := Nat.div_add_mod V 4294967296
    have a2 := Nat.div_add_mod (V / 4294967296) P
    have a3 : 4294967296 * (V / 4294967296) = P * (4294967296 * (V / 4294967296 / P)) + 4294967296 * (V / 4294967296 % P) := by
      conv => lhs; rw [← a2]
      rw [Nat.mul_add, Nat.mul_left_comm]
    omega
  conv => rhs; rw [e3]
  rw [Nat.add_mul_div_left _ _ hp, Nat.add_mul_mod_self_left]

theorem shr_val (a b P : Nat) (ha : a < 4294967296) (hP0 : 0 < P) (hP : P < 4294967296) :
    (IntKind.u64.wrap ((IntKind.u64.wrap ((a : Int) + IntKind.u64.wrap (4294967296 * ((b : Int) % (P : Int))))).tdiv (P : Int))).tmod 4294967296 % 4294967296 = (((a + 4294967296 * (b % P)) / P % 4294967296 : Nat) : Int) := by
  have hr : b % P < P := Nat.mod_lt _ hP0
  rw [← Int.natCast_emod]
  generalize b % P = r at *
  rw [show IntKind.u64.wrap (4294967296 * (r : Int)) = 4294967296 * (r : Int) by rw [IntKind.wrap_u64]; omega]
  rw [show IntKind.u64.wrap ((a : Int) + 4294967296 * (r : Int)) = ((a + 4294967296 * r : Nat) : Int) by rw [IntKind.wrap_u64]; omega]
  have hX : a + 4294967296 * r < 18446744073709551616 := by omega
  generalize a + 4294967296 * r = X at *
  have hY : X / P < 18446744073709551616 := Nat.lt_of_le_of_lt (Nat.div_le_self _ _) hX
  rw [Int.tdiv_eq_ediv_of_nonneg (by omega), ← Int.natCast_ediv]
  generalize X / P = Y at *
  rw [IntKind.wrap_u64, Int.tmod_eq_emod_of_nonneg (by omega)]
  omega

set_option maxRecDepth 100000 in
theorem rshr_calls (w : World) (v : Value) (n : Nat) (k0 : Nat) (hk : k0 ≤ 100000000) (h : Un w v n) (hl : (limbs n).length ≤ 100000000) :
    Calls Tryz.prog 29 #[v, .int .i64 (k0 : Int)] w fun e w' => (∃ u, e = .returned u ∧ Un w' u (n / 2 ^ k0)) ∧ Below w.heap.size w w' := by
  obtain ⟨A, c, rfl, ⟨hc, hm⟩, hx, hr⟩ := id h
  clear hr
  obtain ⟨Q, hQ⟩ : ∃ Q, k0 / 32 = Q := ⟨_, rfl⟩
  obtain ⟨S, hS⟩ : ∃ S, k0 % 32 = S := ⟨_, rfl⟩
  have eQ : (k0 : Int) / 32 = (Q : Int) := by omega
  have eS : (k0 : Int) % 32 = (S : Int) := by omega
  have HK : Hid (k0 = 32 * Q + S) := by rw [Hid]; omega
  have hS32 : S < 32 := by omega
  have hQ1 : Q ≤ 100000000 := by omega
  go_enter Tryz.func29, Tryz.ntmps29
  go_wp2_with (fail)
  have hown0 : Own (w.alloc (.cells #[] 36)) w.heap.size (.slice (some ⟨w.heap.size, 0, none⟩) 0 0) [] := World.ownsRow_lit w #[] 0 (Nat.le_refl _) (Nat.zero_le _) rfl
  have hB0 : Below w.heap.size w (w.alloc (.cells #[] 36)) := (Below.refl _ _).alloc (Nat.le_refl _) _
  go_loop [6, 7] (fun b i => ∃ j : Nat, j ≤ S ∧ i = .int .i64 j ∧ b = .int .u64 (2 ^ j : Nat)) (fun _ i => S - (intOf i).toNat)
  case atStart => exact ⟨0, Nat.zero_le _, rfl, rfl⟩
  case round =>
    obtain ⟨j, hj, rfl, rfl⟩ := hrel
    have hp1 : 2 ^ j < 4294967296 := Nat.lt_of_le_of_lt (Nat.pow_le_pow_right (by decide) (show j ≤ 31 by omega)) (by decide)
    by_cases hd2 : j < S
    · have HN : Hid (2 * ((2 ^ j : Nat) : Int) = ((2 ^ (j + 1) : Nat) : Int)) := by rw [Hid, Nat.pow_succ]; omega
      obtain ⟨X, hX⟩ : ∃ X, 2 ^ j = X := ⟨_, rfl⟩
      rw [hX] at HN hp1
      rw [hX]
      clear hX
      go_wp2
      go_round
      case rel => exact ⟨j + 1, by omega, by go_num, by rw [← HN.out]⟩
      case measure => simp [intOf]; omega
    · obtain rfl : j = S := by omega
      have hp0 : 0 < 2 ^ j := Nat.two_pow_pos j
      have HD : Hid (∀ k, (lb (limbs n) (Q + k) + 4294967296 * (lb (limbs n) (Q + k + 1) % 2 ^ j)) / 2 ^ j % 4294967296 = n / 2 ^ k0 / 4294967296 ^ k % 4294967296) := fun k => by
        rw [HK.out]; exact shr_digit n Q j k hS32
      have HT : Hid (n / 2 ^ k0 < 4294967296 ^ ((limbs n).length - Q)) := by
        rw [Hid, Nat.div_lt_iff_lt_mul (Nat.two_pow_pos _)]
        refine Nat.lt_of_lt_of_le (lt_pow_len n) ?_
        rw [HK.out, Nat.pow_add, ← pow32, ← Nat.mul_assoc, ← Nat.pow_add]
        exact Nat.le_trans (Nat.pow_le_pow_right (by decide) (show (limbs n).length ≤ (limbs n).length - Q + Q by omega)) (Nat.le_mul_of_pos_right _ hp0)
      obtain ⟨P, hP⟩ : ∃ P, 2 ^ j = P := ⟨_, rfl⟩
      rw [hP] at hp0 hp1 HD
      rw [hP]
      clear hP
      go_wp2_with (fail)
      go_loopw [5, 8] (fun s i wr => ∃ (m : Nat) (o : List Nat), (m = 0 ∨ Q + m ≤ (limbs n).length) ∧ i = .int .i64 ((Q + m : Nat) : Int) ∧ Hid (o.length = m ∧ (∀ x ∈ o, x < 4294967296) ∧ ∀ t, t < m → lb o t = n / 2 ^ k0 / 4294967296 ^ t % 4294967296) ∧ Own wr w.heap.size s o ∧ Below w.heap.size w wr) (fun _ i _ => (limbs n).length - (intOf i).toNat)
      case atStart => exact ⟨0, [], Or.inl rfl, rfl, ⟨rfl, by simp, fun t ht => by omega⟩, hown0, hB0⟩
      case round =>
        clear hown0 hB0
        obtain ⟨m, o, hm1, rfl, HO, hown, hB⟩ := hrel
        have hlen := HO.out.1
        by_cases hd3 : Q + m < (limbs n).length
        · have h1 := lb_lt hx (Q + m)
          have h2 := lb_lt hx (Q + m + 1)
          obtain ⟨x1, hx1⟩ : ∃ x1, (lb (limbs n) (Q + m) + 4294967296 * (lb (limbs n) (Q + m + 1) % P)) / P % 4294967296 = x1 := ⟨_, rfl⟩
          have hxl : x1 < 4294967296 := by rw [← hx1]; exact Nat.mod_lt _ (by decide)
          have HO2 : Hid ((o ++ [x1]).length = m + 1 ∧ (∀ x ∈ o ++ [x1], x < 4294967296) ∧ ∀ t, t < m + 1 → lb (o ++ [x1]) t = n / 2 ^ k0 / 4294967296 ^ t % 4294967296) := by
            refine ⟨by simp [hlen], snoc_lt HO.out.2.1 hxl, fun t ht => ?_⟩
            rcases Nat.lt_or_ge t m with h6 | h6
            · rw [← HO.out.2.2 t h6]; unfold lb; rw [List.getElem?_append_left (by omega)]
            · obtain rfl : t = m := by omega
              rw [← HD.out t, hx1]; unfold lb; rw [List.getElem?_append_right (by omega), hlen, Nat.sub_self]; rfl
          have e2 : (IntKind.u64.wrap ((IntKind.u64.wrap (((lb (limbs n) (Q + m) : Nat) : Int) + IntKind.u64.wrap (4294967296 * (((lb (limbs n) (Q + m + 1) : Nat) : Int) % (P : Int))))).tdiv (P : Int))).tmod 4294967296 % 4294967296 = (x1 : Int) := by rw [← hx1]; exact shr_val _ _ _ h1 hp0 hp1
          obtain ⟨v', w', hrun, hown', hB'⟩ := zpush_own hB hown ((IntKind.u64.wrap ((IntKind.u64.wrap (((lb (limbs n) (Q + m) : Nat) : Int) + IntKind.u64.wrap (4294967296 * (((lb (limbs n) (Q + m + 1) : Nat) : Int) % (P : Int))))).tdiv (P : Int))).tmod 4294967296 % 4294967296) x1 e2 hxl (by omega)
          obtain ⟨t1, t2, t3⟩ := app_tok hrun
          clear hrun hx1 e2 hlen hxl h2 hown hm1
          go_wp2_with (fail)
          refine (rlimb_at _ _ (limbs n) _ (Q + m) (by omega) (U.below h hB)).mono ?_
          rintro e w' ⟨rfl, rfl⟩
          go_wp2_with (fail)
          refine (rlimb_at _ _ (limbs n) _ (Q + m + 1) (by omega) (U.below h hB)).mono ?_
          rintro e w' ⟨rfl, rfl⟩
          go_wp2_with (fail)
          go_roundw
          case rel => exact ⟨m + 1, _, Or.inr (by omega), by go_num, HO2, hown', hB'⟩
          case measure => simp [intOf]; omega
        · have HV : Hid (val o = n / 2 ^ k0) := by
            rw [Hid, val_digits o (n / 2 ^ k0) (fun t ht => HO.out.2.2 t (by omega))]
            apply Nat.mod_eq_of_lt
            refine Nat.lt_of_lt_of_le HT.out (Nat.pow_le_pow_right (by decide) (by omega))
          have hu := hown.toU HO.out.2.1 (by omega)
          have hol : o.length ≤ 1000000000 := by omega
          clear hlen
          go_wp2_with (fail)
          refine (rmake_calls _ _ _ hu hol).mono ?_
          rintro e w' ⟨⟨z, rfl, hz⟩, hB2⟩
          have hz2 : Un w' z (n / 2 ^ k0) := by rw [← HV.out]; exact hz
          replace hB := Below.trans hB (Below.mono hB2 hB.size)
          clear hz
          go_wp2
          go_ret
          exact ⟨⟨_, rfl, hz2⟩, hB⟩
end Go.Proofs.YtbdmncpibnligaaGreatDoor
/- The contracts of the document's own functions, in one form. -/
namespace Go.Proofs.YtbdmncpibnligaaGreatDoor
open Go.RowKit
set_option linter.unusedVariables false

theorem rbits_B (w : World) (v : Value) (n : Nat) (h : Un w v n) (hl : (limbs n).length ≤ 1000000000) (k : Int) (hk : ((blen n : Nat) : Int) = k) :
    Calls Tryz.prog 30 #[v] w fun e w' => e = .returned (.int .i64 k) ∧ Ext w w' :=
  (rbits_calls w v n h hl).mono fun e w' ⟨he, m, hw⟩ => ⟨by rw [he, hk], by rw [hw]; exact ext_drewN w m⟩
theorem rcmp_B (w : World) (v u : Value) (n m : Nat) (h : Un w v n) (g : Un w u m) (hl : (limbs n).length ≤ 1000000000) (hl2 : (limbs m).length ≤ 1000000000) (k : Int) (hk : cmpI n m = k) :
    Calls Tryz.prog 25 #[v, u] w fun e w' => e = .returned (.int .i64 k) ∧ Ext w w' :=
  (rcmp_calls w v u _ _ h g hl hl2).mono fun e w' ⟨he, hw⟩ => ⟨by rw [he, val_limbs, val_limbs, hk], by rw [← hw]; exact Ext.refl w⟩
theorem radd_B (w : World) (v u : Value) (n m : Nat) (h : Un w v n) (g : Un w u m) (hm : (limbs n).length ≤ 100000000) (hm2 : (limbs m).length ≤ 100000000) (s : Nat) (hs : n + m = s) :
    Calls Tryz.prog 23 #[v, u] w fun e w' => ∃ z, e = .returned z ∧ Un w' z s ∧ Ext w w' := by
  subst hs
  have := radd_calls w v u _ _ h g hm hm2
  rw [val_limbs, val_limbs] at this
  exact this.mono fun e w' ⟨⟨z, he, hz⟩, hb⟩ => ⟨z, he, hz, hb⟩
theorem rsub_B (w : World) (v u : Value) (n m : Nat) (h : Un w v n) (g : Un w u m) (hm : (limbs n).length ≤ 100000000) (hm2 : (limbs m).length ≤ 100000000) (b : Bool) (hb : decide (m ≤ n) = b) (d : Nat) (hd : n - m = d) :
    Calls Tryz.prog 28 #[v, u] w fun e w' => ∃ z, e = .returned (.tuple #[z, .bool b]) ∧ Un w' z d ∧ Ext w w' :=
  (rsub_calls w v u n m h g hm hm2 b hb d hd).mono fun e w' ⟨⟨z, he, hz⟩, hb⟩ => ⟨z, he, hz, hb⟩
theorem rshl_B (w : World) (v : Value) (n : Nat) (k : Nat) (h : Un w v n) (hk1 : k ≤ 100000000) (hl : (limbs n).length ≤ 100000000) (s : Nat) (hs : n * 2 ^ k = s) :
    Calls Tryz.prog 27 #[v, .int .i64 (k : Int)] w fun e w' => ∃ z, e = .returned z ∧ Un w' z s ∧ Ext w w' := by
  subst hs
  exact (rshl_calls w v n k hk1 h hl).mono fun e w' ⟨⟨z, he, hz⟩, hb⟩ => ⟨z, he, hz, hb⟩
theorem rshr_B (w : World) (v : Value) (n : Nat) (k : Nat) (h : Un w v n) (hk1 : k ≤ 100000000) (hl : (limbs n).length ≤ 100000000) (s : Nat) (hs : n / 2 ^ k = s) :
    Calls Tryz.prog 29 #[v, .int .i64 (k : Int)] w fun e w' => ∃ z, e = .returned z ∧ Un w' z s ∧ Ext w w' := by
  subst hs
  exact (rshr_calls w v n k hk1 h hl).mono fun e w' ⟨⟨z, he, hz⟩, hb⟩ => ⟨z, he, hz, hb⟩
end Go.Proofs.YtbdmncpibnligaaGreatDoor
/- The document's calls in the laws of division, and live questions, whose answers are fixed. -/
namespace Go.Proofs.YtbdmncpibnligaaGreatDoor
open Go.RowKit
set_option linter.unusedVariables false
set_option maxHeartbeats 400000

theorem same1 (w : World) (v u : Value) (n m : Nat) (h : Un w v n) (g : Un w u m) (b : Bool) (hb : decide (n = m) = b) :
    Calls Tryz.prog 20 #[v, u] w fun e w' => e = .returned (.bool b) ∧ Ext w w' := by
  refine same_B w v u _ _ h g b ?_
  rw [← hb]
  refine decide_eq_decide.2 ⟨fun e => ?_, fun e => by rw [e]⟩
  have := congrArg val e
  rwa [val_limbs, val_limbs] at this
end Go.Proofs.YtbdmncpibnligaaGreatDoor
/- Powers of small numbers: no row of the number theoretic transform is read. -/
namespace Go.Proofs.YtbdmncpibnligaaGreatDoor
open Go.RowKit
set_option linter.unusedVariables false
set_option maxHeartbeats 400000

theorem i64_and1N (v : Nat) (h : v < 9223372036854775808) : bits .and .i64 (v : Int) 1 = ((v % 2 : Nat) : Int) := by
  have e1 : (BitVec.ofInt 64 1).toNat = 2 ^ 1 - 1 := by decide
  have key : (BitVec.ofInt 64 (v : Int) &&& BitVec.ofInt 64 1).toNat = v % 2 := by
    rw [BitVec.toNat_and, e1, Nat.and_two_pow_sub_one_eq_mod, BitVec.toNat_ofInt]; omega
  show IntKind.i64.wrap ((BitVec.ofInt 64 (v : Int) &&& BitVec.ofInt 64 1).toNat : Nat) = _
  rw [key, IntKind.wrap_i64]
  omega
end Go.Proofs.YtbdmncpibnligaaGreatDoor
