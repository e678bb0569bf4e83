/- The document's own Add. -/
import Derived.Test.YtnjkdplhoihkiaaQ2
import Derived.Test.YtnjkdplhoihkiaaB
namespace Go.Proofs.Ytnjkdplhoihkiaa
open Go.RowKit
set_option linter.unusedVariables false
set_option maxHeartbeats 400000
attribute [local go_sem ↓] app_shut
attribute [local go_sem] run_append_tok

/-- The value of the first k places. -/
def pv (xs : List Nat) (k : Nat) : Nat := val ((List.range k).map fun j => lb xs j)
theorem pv_zero (xs : List Nat) : pv xs 0 = 0 := rfl
theorem pv_succ (xs : List Nat) (k : Nat) : pv xs (k + 1) = pv xs k + lb xs k * 4294967296 ^ k := by
  unfold pv
  rw [List.range_succ, List.map_append, val_append]
  simp only [List.map_cons, List.map_nil, val, Nat.mul_zero, Nat.add_zero, List.length_map, List.length_range]
  rw [Nat.mul_comm]
theorem pv_all (xs : List Nat) (L : Nat) (h : xs.length ≤ L) : pv xs L = val xs := range_lb xs L h
theorem pv_lt (xs : List Nat) (k : Nat) (h : ∀ x ∈ xs, x < 4294967296) : pv xs k < 4294967296 ^ k := by
  have := val_lt ((List.range k).map fun j => lb xs j) (by intro x hx; obtain ⟨j, _, rfl⟩ := List.mem_map.1 hx; exact lb_lt h j)
  simpa [pv] using this
theorem val_snoc (o : List Nat) (x : Nat) : val (o ++ [x]) = val o + x * 4294967296 ^ o.length := by
  rw [val_append]; simp only [val, Nat.mul_zero, Nat.add_zero]; rw [Nat.mul_comm]

/-- The limbs of a sum so far, and what is carried. -/
structure RAdd (xs ys : List Nat) (k : Nat) (o : List Nat) (c : Nat) : Prop where
  len : o.length = k
  lt : ∀ x ∈ o, x < 4294967296
  carry : c ≤ 1
  val_eq : val o + c * 4294967296 ^ k = pv xs k + pv ys k
theorem RAdd.start (xs ys : List Nat) : RAdd xs ys 0 [] 0 := ⟨rfl, by simp, by omega, rfl⟩
theorem RAdd.step {xs ys : List Nat} {k : Nat} {o : List Nat} {c : Nat} (h : RAdd xs ys k o c) (hx : ∀ x ∈ xs, x < 4294967296) (hy : ∀ x ∈ ys, x < 4294967296) :
    RAdd xs ys (k + 1) (o ++ [(lb xs k + lb ys k + c) % 4294967296]) ((lb xs k + lb ys k + c) / 4294967296) := by
  have h1 := lb_lt hx k
  have h2 := lb_lt hy k
  have h3 := h.carry
  refine ⟨by simp [h.len], snoc_lt h.lt (Nat.mod_lt _ (by decide)), by omega, ?_⟩
  rw [val_snoc, pv_succ, pv_succ, h.len, Nat.pow_succ]
  have e := h.val_eq
  generalize 4294967296 ^ k = B at *
  generalize lb xs k = p at *
  generalize lb ys k = q at *
  have e4 : (p + q + c) * B = (p + q + c) % 4294967296 * B + (p + q + c) / 4294967296 * 4294967296 * B := by
    conv => lhs; rw [show p + q + c = (p + q + c) % 4294967296 + (p + q + c) / 4294967296 * 4294967296 by omega]
    rw [Nat.add_mul]
  rw [Nat.add_mul, Nat.add_mul] at e4
  have e5 : (p + q + c) / 4294967296 * (B * 4294967296) = (p + q + c) / 4294967296 * 4294967296 * B := by
    rw [Nat.mul_comm B 4294967296, ← Nat.mul_assoc]
  rw [e5]
  omega
theorem RAdd.done {xs ys : List Nat} {k : Nat} {o : List Nat} {c : Nat} (h : RAdd xs ys (k + 1) o c) (hx : ∀ x ∈ xs, x < 4294967296) (hy : ∀ x ∈ ys, x < 4294967296) (h1 : xs.length ≤ k) (h2 : ys.length ≤ k) :
    val o = val xs + val ys := by
  have e := h.val_eq
  have a1 := pv_lt xs k hx
  have a2 := pv_lt ys k hy
  rw [pv_all xs _ (by omega)] at e a1
  rw [pv_all ys _ (by omega)] at e a2
  have h3 := h.carry
  rw [Nat.pow_succ] at e
  have hB : 0 < 4294967296 ^ k := Nat.pow_pos (by decide)
  generalize 4294967296 ^ k = B at *
  have : c = 0 ∨ c = 1 := by omega
  rcases this with rfl | rfl <;> omega

/-- One limb more. -/
theorem push_own {w0 w : World} (hB : Below w0.heap.size w0 w) {v : Value} {o : List Nat} (hown : Own w w0.heap.size v o) (z : Int) (x : Nat) (hz : z = (x : Int)) (hx : x < 4294967296) (hlen : o.length + 1 ≤ 35184372088832) :
    ∃ v' w', (Builtin.append_ #[22, 22] 22 #[v, .slice (some ⟨w.heap.size, 0, none⟩) 1 1]).run Try.prog (w.alloc (.cells #[.int .u32 z] 37)) = .ok v' w' ∧ Own w' w0.heap.size v' (o ++ [x]) ∧ Below w0.heap.size w0 w' := by
  subst hz
  have hu : U (w.alloc (.cells #[.int .u32 (x : Int)] 37)) (.slice (some ⟨w.heap.size, 0, none⟩) 1 1) [x] := U_lit w [x] (by simpa using hx) (by simp)
  have hB1 := hB.alloc hB.size (.cells #[.int .u32 (x : Int)] 37)
  obtain ⟨v', w', hrun, ho, hg⟩ := run_append_U _ w0.heap.size _ o (World.ownsRow.alloc hown _) _ _ hu (by simpa using hlen) hB1.size
  exact ⟨v', w', hrun, ho, hB1.grown hg hB1.size (fun j e => (World.ownsRow.lt hown j e).1)⟩

set_option maxRecDepth 100000 in
theorem radd_calls (w : World) (v u : Value) (xs ys : List Nat) (h : U w v xs) (g : U w u ys) (hl : xs.length ≤ 100000000) (hl2 : ys.length ≤ 100000000) :
    Calls Try.prog 23 #[v, u] w fun e w' => (∃ z, e = .returned z ∧ U w' z (limbs (val xs + val ys))) ∧ Below w.heap.size w w' := by
  obtain ⟨A, c, rfl, ⟨hc, hm⟩, hx, hr⟩ := id h
  obtain ⟨A2, c2, rfl, ⟨hc2, hm2⟩, hx2, hr2⟩ := id g
  clear hr hr2
  go_enter Try.func23, Try.ntmps23
  go_wp2_with (fail)
  have hown0 : Own (w.alloc (.cells #[] 37)) w.heap.size (.slice (some ⟨w.heap.size, 0, none⟩) 0 0) [] := World.ownsRow_lit w #[] 0 (Nat.le_refl _) (Nat.zero_le _) rfl
  have hB0 : Below w.heap.size w (w.alloc (.cells #[] 37)) := (Below.refl _ _).alloc (Nat.le_refl _) _
  go_loopw [5, 6, 7] (fun s cv i wr => ∃ (k cy : Nat) (o : List Nat), k ≤ max xs.length ys.length + 1 ∧ i = .int .i64 k ∧ cv = .int .u64 cy ∧ Hid (RAdd xs ys k o cy) ∧ Own wr w.heap.size s o ∧ Below w.heap.size w wr) (fun _ _ i _ => max xs.length ys.length + 2 - (intOf i).toNat)
  case atStart => exact ⟨0, 0, [], Nat.zero_le _, rfl, rfl, RAdd.start xs ys, hown0, hB0⟩
  case round =>
    clear hown0 hB0
    obtain ⟨k, cy, o, hk, rfl, rfl, HO, hown, hB⟩ := hrel
    by_cases hd1 : k ≤ xs.length
    · have h1 := lb_lt hx k
      have h2 := lb_lt hx2 k
      have h3 := HO.out.carry
      have hlen := HO.out.len
      obtain ⟨x1, hx1⟩ : ∃ x1, (lb xs k + lb ys k + cy) % 4294967296 = x1 := ⟨_, rfl⟩
      obtain ⟨c1, hc1⟩ : ∃ c1, (lb xs k + lb ys k + cy) / 4294967296 = c1 := ⟨_, rfl⟩
      have HO2 : Hid (RAdd xs ys (k + 1) (o ++ [x1]) c1) := by rw [Hid, ← hx1, ← hc1]; exact HO.out.step hx hx2
      obtain ⟨v', w', hrun, hown', hB'⟩ := push_own hB hown ((((lb xs k : Nat) : Int) + ((lb ys k : Nat) : Int) + (cy : Int)) % 4294967296) x1 (by rw [← hx1]; omega) (by rw [← hx1]; exact Nat.mod_lt _ (by decide)) (by omega)
      obtain ⟨t1, t2, t3⟩ := app_tok hrun
      have hk2 : k + 1 ≤ max xs.length ys.length + 1 := by omega
      have HC1 : Hid ((((lb xs k : Nat) : Int) + ((lb ys k : Nat) : Int) + (cy : Int)) / 4294967296 = (c1 : Int)) := by rw [Hid, ← hc1]; omega
      clear hrun hx1 hc1 hlen
      go_wp2_with (fail)
      refine (limb_calls _ _ xs _ k rfl (h.below hB)).mono ?_
      rintro e w' ⟨rfl, rfl⟩
      go_wp2_with (fail)
      refine (limb_calls _ _ ys _ k rfl (g.below hB)).mono ?_
      rintro e w' ⟨rfl, rfl⟩
      go_wp2_with (fail)
      go_roundw
      case rel => exact ⟨k + 1, c1, _, hk2, by go_num, by rw [HC1.out], HO2, hown', hB'⟩
      case measure => simp [intOf]; omega
    · by_cases hd2 : k ≤ ys.length
      · have h1 := lb_lt hx k
        have h2 := lb_lt hx2 k
        have h3 := HO.out.carry
        have hlen := HO.out.len
        obtain ⟨x1, hx1⟩ : ∃ x1, (lb xs k + lb ys k + cy) % 4294967296 = x1 := ⟨_, rfl⟩
        obtain ⟨c1, hc1⟩ : ∃ c1, (lb xs k + lb ys k + cy) / 4294967296 = c1 := ⟨_, rfl⟩
        have HO2 : Hid (RAdd xs ys (k + 1) (o ++ [x1]) c1) := by rw [Hid, ← hx1, ← hc1]; exact HO.out.step hx hx2
        obtain ⟨v', w', hrun, hown', hB'⟩ := push_own hB hown ((((lb xs k : Nat) : Int) + ((lb ys k : Nat) : Int) + (cy : Int)) % 4294967296) x1 (by rw [← hx1]; omega) (by rw [← hx1]; exact Nat.mod_lt _ (by decide)) (by omega)
        obtain ⟨t1, t2, t3⟩ := app_tok hrun
        have hk2 : k + 1 ≤ max xs.length ys.length + 1 := by omega
        have HC1 : Hid ((((lb xs k : Nat) : Int) + ((lb ys k : Nat) : Int) + (cy : Int)) / 4294967296 = (c1 : Int)) := by rw [Hid, ← hc1]; omega
        clear hrun hx1 hc1 hlen
        go_wp2_with (fail)
        refine (limb_calls _ _ xs _ k rfl (h.below hB)).mono ?_
        rintro e w' ⟨rfl, rfl⟩
        go_wp2_with (fail)
        refine (limb_calls _ _ ys _ k rfl (g.below hB)).mono ?_
        rintro e w' ⟨rfl, rfl⟩
        go_wp2_with (fail)
        go_roundw
        case rel => exact ⟨k + 1, c1, _, hk2, by go_num, by rw [HC1.out], HO2, hown', hB'⟩
        case measure => simp [intOf]; omega
      · have hlen := HO.out.len
        obtain ⟨j, rfl⟩ : ∃ j, k = j + 1 := ⟨k - 1, by omega⟩
        have HV : Hid (val o = val xs + val ys) := HO.out.done hx hx2 (by omega) (by omega)
        have hu := hown.toU HO.out.lt (by omega)
        have hol : o.length ≤ 1000000000 := by omega
        clear hlen
        go_wp2_with (fail)
        refine (rmake_calls _ _ _ hu hol).mono ?_
        rintro e w' ⟨⟨z, rfl, hz⟩, hB2⟩
        rw [HV.out] at hz
        replace hB := Below.trans hB (Below.mono hB2 hB.size)
        go_wp2
        go_ret
        exact ⟨⟨_, rfl, hz⟩, hB⟩
end Go.Proofs.Ytnjkdplhoihkiaa
