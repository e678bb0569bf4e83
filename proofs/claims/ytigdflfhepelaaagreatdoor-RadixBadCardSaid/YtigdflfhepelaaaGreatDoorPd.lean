/- Rows of bytes; a chunk of digits, and a row of digits chunk by chunk: plain mathematics and memory. -/
import Derived.Test.YtigdflfhepelaaaGreatDoorPc
import Derived.Laws.CopyOwn
import Derived.Deep.CutBlock
import Derived.Shelf.Bits.Mul64
import Derived.Deep.Cut
import Derived.Deep.CutRange
import Derived.BigRegion
import Derived.Below
import Derived.Laws.OwnMore
import Derived.Deep.AppendLies
import Derived.Deep.Draws
import Derived.Lib.Hide
import Derived.Test.YtigdflfhepelaaaGreatDoorProg
import Derived.WalkKit
import Derived.ProofKit
import Derived.OpenShut
import Derived.JoinedCond
import Derived.RegionTactic
import Derived.LoopTactic
import Derived.BigQuiet
import Derived.Deep.QuietTactic
import Derived.Outline
import Derived.Laws.AppendOwn
import Derived.Laws.BitsAllLaws
import Derived.Laws.Bits64
import Derived.OwnWalk

namespace Go.Proofs.YtigdflfhepelaaaGreatDoor
open Go.RowKit
set_option linter.unusedVariables false
set_option maxHeartbeats 400000

def Bv (o : List Nat) : List Value := o.map fun x => Value.int .u8 (x : Nat)
theorem Bv_len (o : List Nat) : (Bv o).length = o.length := by simp [Bv]
theorem Bv_get (o : List Nat) {j : Nat} (h : j < o.length) : (Bv o)[j]? = some (.int .u8 (lb o j : Nat)) := by unfold Bv lb; simp [h]
theorem Bv_set (o : List Nat) (i x : Nat) : Bv (o.set i x) = (Bv o).set i (.int .u8 (x : Nat)) := by simp [Bv, List.map_set]
theorem Bv_splice (o cs : List Nat) (off : Nat) : Bv (splice o off cs) = splice (Bv o) off (Bv cs) := by simp [Bv, splice]
/-- Block g is the row of bytes o, and may be written. -/
def By (T : TypeId) (w : World) (g : Nat) (o : List Nat) : Prop := w.heap[g]? = some (.cells (Bv o).toArray T (0, 0))
theorem By.lt {T : TypeId} {w : World} {g : Nat} {o : List Nat} (h : By T w g o) : g < w.heap.size := (Array.getElem?_eq_some_iff.1 h).1
theorem By.cell {T : TypeId} {w : World} {g : Nat} {o : List Nat} (h : By T w g o) {j : Nat} (hj : j < o.length) : w.cell? ⟨g, j, none⟩ = some (.int .u8 (lb o j : Nat)) := by
  rw [cell_of_row w g j _ _ _ h, List.getElem?_toArray]; exact Bv_get o hj
theorem By.frozen {T : TypeId} {w : World} {g : Nat} {o : List Nat} (h : By T w g o) (j : Nat) : w.frozen? ⟨g, j, none⟩ = false := frozen_of_row w g j _ _ h
theorem By.set_ {T : TypeId} {w : World} {g : Nat} {o : List Nat} (h : By T w g o) (j x : Nat) : By T (w.setCell ⟨g, j, none⟩ (.int .u8 (x : Nat))) g (o.set j x) := by
  have := heap_setCell_same w g j _ _ (.int .u8 (x : Nat)) h
  unfold By
  rw [this, Bv_set, List.setIfInBounds_toArray]
theorem By.other {T : TypeId} {w : World} {g q : Nat} {o : List Nat} (h : By T w g o) (hne : g ≠ q) (j : Nat) (v : Value) : By T (w.setCell ⟨q, j, none⟩ v) g o := by
  unfold By
  rw [heap_setCell_other w ⟨q, j, none⟩ g v hne]; exact h
theorem By.ext {T : TypeId} {w w' : World} {g : Nat} {o : List Nat} (h : By T w g o) (hE : Ext w w') : By T w' g o := by
  unfold By
  rw [hE.block g h.lt]; exact h
theorem By.but {T : TypeId} {w w' : World} {g q : Nat} {o : List Nat} (h : By T w g o) (hE : But q w w') (hne : g ≠ q) : By T w' g o := by
  unfold By
  rw [hE.block g h.lt (fun e => hne (by injection e))]; exact h

/-- A natural's limbs lie in no row of bytes. -/
theorem U.notBy {T : TypeId} {w : World} {v : Value} {xs : List Nat} {g : Nat} {o : List Nat} (h : U w v xs) (hB : By T w g o) : ∃ (A : Option Addr) (c : Nat), v = .slice A xs.length c ∧ (xs.length ≤ c ∧ xs.length ≤ 9223372036854775807) ∧ (∀ x ∈ xs, x < 4294967296) ∧
    (0 < xs.length → ∃ ad, A = some ad ∧ ad.block < w.heap.size ∧ ad.block ≠ g ∧ ∀ j, j < xs.length → w.cell? (ad.add j) = some (.int .u32 (lb xs j : Nat))) := by
  obtain ⟨A, c, rfl, hc, hx, hr⟩ := h
  refine ⟨A, c, rfl, hc, hx, fun h0 => ?_⟩
  obtain ⟨ad, hA, hb, hcell⟩ := hr h0
  refine ⟨ad, hA, hb, fun e => ?_, hcell⟩
  have h1 := hcell 0 h0
  rw [addr_add_zero] at h1
  have hB2 : w.heap[ad.block]? = some (.cells (Bv o).toArray T (0, 0)) := by rw [e]; exact hB
  unfold World.cell? at h1
  rw [hB2] at h1
  simp only at h1
  split at h1
  · cases h1
  · rw [List.getElem?_toArray] at h1
    unfold Bv at h1
    rw [List.getElem?_map] at h1
    cases h2 : o[ad.off]? with
    | none => rw [h2] at h1; cases h1
    | some x => rw [h2] at h1; simp at h1
theorem U.butBy {T : TypeId} {w w' : World} {v : Value} {xs : List Nat} {g : Nat} {o : List Nat} (h : U w v xs) (hB : By T w g o) (hE : But g w w') : U w' v xs := by
  obtain ⟨A, c, rfl, hc, hx, hr⟩ := h.notBy hB
  refine ⟨A, c, rfl, hc, hx, fun h0 => ?_⟩
  obtain ⟨ad, hA, hb, hne, hcell⟩ := hr h0
  exact ⟨ad, hA, Nat.lt_of_lt_of_le hb hE.size, fun j hj => (hE.cell (by rw [addr_add_block]; exact hb) (by rw [addr_add_block]; exact hne)).trans (hcell j hj)⟩
/-- A chunk from behind: the places from k on are written. -/
structure CkI (b n r0 k : Nat) (c : List Nat) (r : Nat) : Prop where
  len : c.length = 32
  at_ : ∀ j, k ≤ j → j < n → lb c j = digB (lb (bdig b r0 n) j)
  rest : r = r0 / b ^ (n - k)
theorem CkI.start (b n r0 : Nat) (c : List Nat) (h : c.length = 32) : CkI b n r0 n c r0 := ⟨h, fun j h1 h2 => by omega, by rw [Nat.sub_self, Nat.pow_zero, Nat.div_one]⟩
theorem CkI.step {b n r0 k : Nat} {c : List Nat} {r : Nat} (h : CkI b n r0 (k + 1) c r) (hk : k < n) (hn : n ≤ 32) : CkI b n r0 k (c.set k (digB (r % b))) (r / b) := by
  refine ⟨by simp [h.len], fun j h1 h2 => ?_, ?_⟩
  · rw [lb_set _ _ _ _ (by rw [h.len]; omega)]
    by_cases e : k = j
    · subst e
      rw [if_pos rfl]
      have := bdig_at b n r0 (n - (k + 1)) (by omega)
      rw [show n - 1 - (n - (k + 1)) = k by omega, ← h.rest] at this
      rw [this]
    · rw [if_neg e]; exact h.at_ j (by omega) h2
  · rw [h.rest, Nat.div_div_eq_div_mul, ← Nat.pow_succ]; congr 2; omega
theorem CkI.done {b n r0 : Nat} {c : List Nat} {r : Nat} (h : CkI b n r0 0 c r) (hn : n ≤ 32) : c.take n = (bdig b r0 n).map digB := by
  have e1 : (c.take n).length = n := by rw [List.length_take, h.len]; omega
  refine ext_lb (by rw [e1, List.length_map, bdig_len]) fun j hj => ?_
  rw [e1] at hj
  rw [lb_take hj, h.at_ j (Nat.zero_le _) hj]
  have hj2 : j < (bdig b r0 n).length := by rw [bdig_len]; exact hj
  unfold lb
  simp [hj2]

/-- Digits that lie low are told by what is low. -/
theorem bdig_mod (b a n k : Nat) (h : k ≤ n) : bdig b (a % b ^ n) k = bdig b a k := by
  obtain ⟨d, rfl⟩ : ∃ d, n = k + d := ⟨n - k, by omega⟩
  clear h
  induction k generalizing a with
  | zero => rfl
  | succ k ih =>
    rw [bdig, bdig]
    have e : k + 1 + d = (k + d) + 1 := by omega
    rw [e, Nat.pow_succ, Nat.mul_comm (b ^ (k + d)) b, Nat.mod_mul_right_div_self, ih, Nat.mod_mul_right_mod]
/-- The row, of which m digits are still to be written. -/
structure WrI (b len a0 : Nat) (pre mid post : List Nat) (m : Nat) (o : List Nat) (a : Nat) : Prop where
  le : m ≤ len
  row : o = pre ++ (mid.take m ++ (((bdig b a0 len).map digB).drop m ++ post))
  rest : a = a0 / b ^ (len - m)
theorem WrI.step {b len a0 n : Nat} {pre mid post : List Nat} {m : Nat} {o : List Nat} {a : Nat} (h : WrI b len a0 pre mid post m o a) (hb : 2 ≤ b) (hmid : mid.length = len) (ha : a0 < b ^ len) (k : Nat) (hk : min n m = k) :
    WrI b len a0 pre mid post (m - k) (splice o (pre.length + (m - k)) ((bdig b (a % b ^ n) k).map digB)) (a / b ^ n) := by
  have hle := h.le
  have hkm : k ≤ m := by omega
  refine ⟨by omega, ?_, ?_⟩
  · rw [bdig_mod b a n k (by omega)]
    have e1 : (bdig b a0 len).drop (m - k) = bdig b a k ++ (bdig b a0 len).drop m := by
      have h1 : bdig b a0 len = bdig b a m ++ bdig b (a0 % b ^ (len - m)) (len - m) := by
        have := bdig_add b a0 m (len - m)
        rw [show m + (len - m) = len by omega] at this
        rw [this, h.rest]
      have h2 : bdig b a m = bdig b (a / b ^ k) (m - k) ++ bdig b a k := by
        have := bdig_add b a (m - k) k
        rw [show m - k + k = m by omega, bdig_mod b a k k (Nat.le_refl _)] at this
        exact this
      rw [h1, List.drop_append_of_le_length (by rw [bdig_len]; omega), List.drop_left' (by rw [bdig_len]), h2, List.drop_left' (by rw [bdig_len])]
    rw [h.row, splice, ← List.map_drop, ← List.map_drop, e1, List.map_append]
    have l1 : ((bdig b a k).map digB).length = k := by rw [List.length_map, bdig_len]
    have l2 : (mid.take m).length = m := by rw [List.length_take]; omega
    rw [l1]
    have t1 : (pre ++ (mid.take m ++ (((bdig b a0 len).drop m).map digB ++ post))).take (pre.length + (m - k)) = pre ++ mid.take (m - k) := by
      rw [List.take_length_add_append, List.take_append_of_le_length (by rw [l2]; omega), List.take_take, Nat.min_eq_left (by omega)]
    have t2 : (pre ++ (mid.take m ++ (((bdig b a0 len).drop m).map digB ++ post))).drop (pre.length + (m - k) + k) = ((bdig b a0 len).drop m).map digB ++ post := by
      rw [show pre.length + (m - k) + k = pre.length + m by omega, List.drop_length_add_append, List.drop_left' l2]
    rw [t1, t2]
    simp only [List.append_assoc]
  · rw [h.rest, Nat.div_div_eq_div_mul, ← Nat.pow_add]
    rcases Nat.le_total n m with h1 | h1
    · congr 2; omega
    · have hz : a0 / b ^ (len - m + n) = 0 := Nat.div_eq_of_lt (Nat.lt_of_lt_of_le ha (Nat.pow_le_pow_right (by omega) (by omega)))
      rw [hz, show len - (m - k) = len by omega, Nat.div_eq_of_lt ha]
end Go.Proofs.YtigdflfhepelaaaGreatDoor
/- Order of limbs: plain lists and naturals. -/
namespace Go.Proofs.YtigdflfhepelaaaGreatDoor

/-- The first k of L - 1, L - 2, .., 0. -/
def downs (L k : Nat) : List Nat := (List.range k).map fun j => L - 1 - j
theorem downs_succ (L k : Nat) : downs L (k + 1) = downs L k ++ [L - 1 - k] := by simp [downs, List.range_succ]
theorem downs_length (L k : Nat) : (downs L k).length = k := by simp [downs]
theorem mem_downs {L k j : Nat} (hk : k ≤ L) : j ∈ downs L k ↔ L - k ≤ j ∧ j < L := by
  simp only [downs, List.mem_map, List.mem_range]
  constructor
  · rintro ⟨i, hi, rfl⟩; omega
  · intro h; exact ⟨L - 1 - j, by omega, by omega⟩

theorem val_lt_of_top {xs ys : List Nat} (hl : xs.length = ys.length) (hx : ∀ x ∈ xs, x < 4294967296) (hy : ∀ x ∈ ys, x < 4294967296) (p : Nat) (hp : p < xs.length)
    (ht : ∀ j, p < j → j < xs.length → lb xs j = lb ys j) (hlt : lb xs p < lb ys p) : val xs < val ys := by
  induction xs generalizing ys p with
  | nil => simp at hp
  | cons x xs ih =>
    cases ys with
    | nil => simp at hl
    | cons y ys =>
      have e : ∀ (a : Nat) (l : List Nat) j, lb (a :: l) (j + 1) = lb l j := fun a l j => by simp [lb]
      have hl' : xs.length = ys.length := by simpa using hl
      have h1 := hx x (List.mem_cons_self ..)
      have h2 := hy y (List.mem_cons_self ..)
      simp only [val]
      cases p with
      | zero =>
        have : xs = ys := ext_lb hl' fun j hj => by
          have := ht (j + 1) (by omega) (by simpa using hj)
          rwa [e, e] at this
        subst this
        have h3 : lb (x :: xs) 0 = x := by simp [lb]
        have h4 : lb (y :: xs) 0 = y := by simp [lb]
        omega
      | succ p =>
        rw [e, e] at hlt
        have := ih hl' (fun z hz => hx z (List.mem_cons_of_mem _ hz)) (fun z hz => hy z (List.mem_cons_of_mem _ hz)) p (by simpa using hp)
          (fun j h3 h4 => by
            have := ht (j + 1) (by omega) (by simpa using h4)
            rwa [e, e] at this) hlt
        omega

theorem cmpI_lt {x y : Int} (h : x < y) : cmpI x y = -1 := if_pos h
theorem cmpI_gt {x y : Int} (h : y < x) : cmpI x y = 1 := by rw [cmpI, if_neg (by omega), if_pos h]
theorem cmpI_eq (x : Int) : cmpI x x = 0 := by rw [cmpI, if_neg (by omega), if_neg (by omega)]

theorem lt_of_len_lt {n m : Nat} (h : (limbs n).length < (limbs m).length) : n < m := by
  have h1 := lt_pow_len n
  have h2 := le_of_lt_len h
  omega

/-- Numbers whose limbs differ in number stand as these numbers. -/
theorem cmpI_len {n m : Nat} (h : (limbs n).length ≠ (limbs m).length) : cmpI (limbs n).length (limbs m).length = cmpI n m := by
  rcases Nat.lt_or_gt_of_ne h with h | h
  · have := lt_of_len_lt h
    rw [cmpI_lt (by omega), cmpI_lt (by omega)]
  · have := lt_of_len_lt h
    rw [cmpI_gt (by omega), cmpI_gt (by omega)]

/-- Of as many limbs the first unlike ones from the top decide. -/
theorem cmpI_top {n m p : Nat} (hl : (limbs n).length = (limbs m).length) (hp : p < (limbs n).length) (ht : ∀ j, p < j → j < (limbs n).length → lb (limbs n) j = lb (limbs m) j)
    (hne : lb (limbs n) p ≠ lb (limbs m) p) : cmpI (lb (limbs n) p) (lb (limbs m) p) = cmpI n m := by
  rcases Nat.lt_or_gt_of_ne hne with h | h
  · have := val_lt_of_top hl (limbs_lt n) (limbs_lt m) p hp ht h
    rw [val_limbs, val_limbs] at this
    rw [cmpI_lt (by omega), cmpI_lt (by omega)]
  · have := val_lt_of_top hl.symm (limbs_lt m) (limbs_lt n) p (by omega) (fun j h1 h2 => (ht j h1 (by omega)).symm) h
    rw [val_limbs, val_limbs] at this
    rw [cmpI_gt (by omega), cmpI_gt (by omega)]
end Go.Proofs.YtigdflfhepelaaaGreatDoor
/- Words to the base 2^64 and the numbers that they are: plain lists and naturals. -/
namespace Go.Proofs.YtigdflfhepelaaaGreatDoor
set_option linter.unusedVariables false

/-- The number that words are, the lowest first. -/
def wal : List Nat → Nat
  | [] => 0
  | x :: xs => x + 18446744073709551616 * wal xs
def BB : Nat := 18446744073709551616
theorem wal_append (xs ys : List Nat) : wal (xs ++ ys) = wal xs + BB ^ xs.length * wal ys := by
  induction xs with
  | nil => simp [wal]
  | cons x xs ih =>
    simp only [List.cons_append, wal, ih, List.length_cons, Nat.pow_succ]
    rw [Nat.mul_add, Nat.add_assoc]
    congr 2
    rw [← Nat.mul_assoc, Nat.mul_comm 18446744073709551616]
    rfl
theorem wal_lt (xs : List Nat) (h : ∀ x ∈ xs, x < 18446744073709551616) : wal xs < BB ^ xs.length := by
  induction xs with
  | nil => simp [wal]
  | cons x xs ih =>
    have h1 := ih fun y hy => h y (List.mem_cons_of_mem _ hy)
    have h2 := h x (List.mem_cons_self ..)
    simp only [wal, List.length_cons, Nat.pow_succ]
    have : wal xs * 18446744073709551616 + 18446744073709551616 ≤ BB ^ xs.length * BB := by
      have := Nat.mul_le_mul_right 18446744073709551616 (show wal xs + 1 ≤ BB ^ xs.length from h1)
      rw [Nat.add_mul] at this
      show _ ≤ BB ^ xs.length * 18446744073709551616
      omega
    omega
theorem wal_zeros (n : Nat) : wal (List.replicate n 0) = 0 := by
  induction n with
  | zero => rfl
  | succ n ih => rw [List.replicate_succ, wal, ih]
theorem wal_set (o : List Nat) (i x : Nat) (h : i < o.length) : wal (o.set i x) + BB ^ i * lb o i = wal o + BB ^ i * x := by
  induction o generalizing i with
  | nil => simp at h
  | cons y ys ih =>
    cases i with
    | zero =>
      simp only [List.set_cons_zero, wal, Nat.pow_zero, Nat.one_mul]
      have : lb (y :: ys) 0 = y := rfl
      omega
    | succ i =>
      have := ih i (by simpa using h)
      simp only [List.set_cons_succ, wal]
      have e : lb (y :: ys) (i + 1) = lb ys i := by simp [lb]
      rw [e, Nat.pow_succ, Nat.mul_comm (BB ^ i) BB]
      have h2 : BB * (wal (ys.set i x) + BB ^ i * lb ys i) = BB * (wal ys + BB ^ i * x) := by rw [this]
      rw [Nat.mul_add, Nat.mul_add, ← Nat.mul_assoc, ← Nat.mul_assoc] at h2
      show y + BB * _ + _ = y + BB * _ + _
      omega
theorem wal_take_succ (xs : List Nat) (k : Nat) (h : k < xs.length) : wal (xs.take (k + 1)) = wal (xs.take k) + BB ^ k * lb xs k := by
  have e : xs.take (k + 1) = xs.take k ++ [lb xs k] := by
    rw [List.take_add_one, List.getElem?_eq_getElem h]
    unfold lb
    rw [List.getElem?_eq_getElem h]; rfl
  rw [e, wal_append, List.length_take, Nat.min_eq_left (by omega)]
  simp [wal]
theorem wal_cut (xs : List Nat) (k : Nat) (h : k ≤ xs.length) : wal xs = wal (xs.take k) + BB ^ k * wal (xs.drop k) := by
  conv => lhs; rw [← List.take_append_drop k xs]
  rw [wal_append, List.length_take, Nat.min_eq_left h]
theorem wal_inj {xs ys : List Nat} (hl : xs.length = ys.length) (hx : ∀ x ∈ xs, x < 18446744073709551616) (hy : ∀ x ∈ ys, x < 18446744073709551616) (h : wal xs = wal ys) : xs = ys := by
  induction xs generalizing ys with
  | nil => cases ys with
    | nil => rfl
    | cons _ _ => simp at hl
  | cons x xs ih => cases ys with
    | nil => simp at hl
    | cons y ys =>
      have h1 := hx x (List.mem_cons_self ..)
      have h2 := hy y (List.mem_cons_self ..)
      simp only [wal] at h
      have e1 : x = y := by omega
      have e2 : wal xs = wal ys := by omega
      rw [e1, ih (by simpa using hl) (fun z hz => hx z (List.mem_cons_of_mem _ hz)) (fun z hz => hy z (List.mem_cons_of_mem _ hz)) e2]

/-- Limbs as words. -/
def packL : List Nat → List Nat
  | [] => []
  | [x] => [x]
  | x :: y :: r => (x + 4294967296 * y) :: packL r
theorem packL_len : ∀ xs : List Nat, (packL xs).length = (xs.length + 1) / 2
  | [] => rfl
  | [x] => by simp [packL]
  | x :: y :: r => by rw [packL, List.length_cons, packL_len r]; simp only [List.length_cons]; omega
theorem wal_packL : ∀ xs : List Nat, wal (packL xs) = val xs
  | [] => rfl
  | [x] => rfl
  | x :: y :: r => by rw [packL, wal, wal_packL r]; simp only [val]; omega
theorem lb_packL : ∀ (xs : List Nat) (i : Nat), lb (packL xs) i = lb xs (2 * i) + 4294967296 * lb xs (2 * i + 1)
  | [], i => by simp [packL, lb]
  | [x], i => by
    cases i with
    | zero => simp [packL, lb]
    | succ i => rw [show 2 * (i + 1) = (2 * i + 1) + 1 by omega]; simp [packL, lb]
  | x :: y :: r, i => by
    cases i with
    | zero => simp [packL, lb]
    | succ i =>
      have := lb_packL r i
      have e1 : lb (packL (x :: y :: r)) (i + 1) = lb (packL r) i := by simp [packL, lb]
      have e2 : lb (x :: y :: r) (2 * (i + 1)) = lb r (2 * i) := by rw [show 2 * (i + 1) = 2 * i + 1 + 1 by omega]; simp [lb]
      have e3 : lb (x :: y :: r) (2 * (i + 1) + 1) = lb r (2 * i + 1) := by rw [show 2 * (i + 1) + 1 = 2 * i + 1 + 1 + 1 by omega]; simp [lb]
      rw [e1, e2, e3, this]
theorem packL_lt (xs : List Nat) (h : ∀ x ∈ xs, x < 4294967296) : ∀ x ∈ packL xs, x < 18446744073709551616 := by
  refine mem_of_lb fun j hj => ?_
  rw [lb_packL]
  have h1 := lb_lt h (2 * j)
  have h2 := lb_lt h (2 * j + 1)
  omega
/-- Words as limbs. -/
def unpackL : List Nat → List Nat
  | [] => []
  | x :: r => x % 4294967296 :: x / 4294967296 :: unpackL r
theorem unpackL_len (ws : List Nat) : (unpackL ws).length = 2 * ws.length := by
  induction ws with
  | nil => rfl
  | cons x r ih => simp only [unpackL, List.length_cons, ih]; omega
theorem val_unpackL (ws : List Nat) : val (unpackL ws) = wal ws := by
  induction ws with
  | nil => rfl
  | cons x r ih => simp only [unpackL, val, wal, ih]; omega
theorem unpackL_lt (ws : List Nat) (h : ∀ x ∈ ws, x < 18446744073709551616) : ∀ x ∈ unpackL ws, x < 4294967296 := by
  induction ws with
  | nil => intro x hx; simp [unpackL] at hx
  | cons y r ih =>
    intro x hx
    have h0 := h y (List.mem_cons_self ..)
    simp only [unpackL, List.mem_cons] at hx
    rcases hx with rfl | rfl | hx
    · omega
    · omega
    · exact ih (fun z hz => h z (List.mem_cons_of_mem _ hz)) x hx
theorem lb_unpackL (ws : List Nat) (i : Nat) : lb (unpackL ws) (2 * i) = lb ws i % 4294967296 ∧ lb (unpackL ws) (2 * i + 1) = lb ws i / 4294967296 := by
  induction ws generalizing i with
  | nil => simp [unpackL, lb]
  | cons x r ih =>
    cases i with
    | zero => simp [unpackL, lb]
    | succ i =>
      have := ih i
      have e1 : lb (unpackL (x :: r)) (2 * (i + 1)) = lb (unpackL r) (2 * i) := by rw [show 2 * (i + 1) = 2 * i + 1 + 1 by omega]; simp [unpackL, lb]
      have e2 : lb (unpackL (x :: r)) (2 * (i + 1) + 1) = lb (unpackL r) (2 * i + 1) := by rw [show 2 * (i + 1) + 1 = 2 * i + 1 + 1 + 1 by omega]; simp [unpackL, lb]
      have e3 : lb (x :: r) (i + 1) = lb r i := by simp [lb]
      rw [e1, e2, e3]; exact this

/-- One place more, added. -/
theorem wadd_step (P S S' x y c d A v : Nat) (hset : S' + P * x = S + P * v) (hinv : S + P * c = A) (hd : x + y + c = v + BB * d) : S' + P * BB * d = A + P * y := by
  have h1 : P * (x + y + c) = P * (v + BB * d) := by rw [hd]
  rw [Nat.mul_add, Nat.mul_add, Nat.mul_add, ← Nat.mul_assoc] at h1
  omega
/-- One place more, taken away. -/
theorem wsub_step (P S S' x y c d A T v : Nat) (hset : S' + P * x = S + P * v) (hinv : S + T = A + P * c) (hd : x + BB * d = v + y + c) : S' + (T + P * y) = A + P * BB * d := by
  have h1 : P * (x + BB * d) = P * (v + y + c) := by rw [hd]
  rw [Nat.mul_add, Nat.mul_add, Nat.mul_add, ← Nat.mul_assoc] at h1
  omega
end Go.Proofs.YtigdflfhepelaaaGreatDoor
/- The mathematics of a digit of a quotient: the guess by three words and two is right, or one too great. -/
namespace Go.Proofs.YtigdflfhepelaaaGreatDoor
open Go.RowKit
set_option linter.unusedVariables false
set_option maxHeartbeats 400000

/-- What is known of a guess: B the base, P the places below the last two words of the divisor, D those two words, T the last three of what is divided. -/
structure GsI (B P D T V U v1 v0 t1 u0 q r : Nat) : Prop where
  inv : q * v1 + r = t1
  top : U < (q + 1) * V
  lt : q < B

theorem gs_first (B P D T V U v1 v0 vr t1 u0 ur q r : Nat) (hD : D = v1 * B + v0) (hT : T = t1 * B + u0) (hV : V = D * P + vr) (hU : U = T * P + ur) (hu0 : u0 < B) (hur : ur < P)
    (hq : q * v1 + r = t1) (hr : r < v1) (hlt : q < B) : GsI B P D T V U v1 v0 t1 u0 q r := by
  refine ⟨hq, ?_, hlt⟩
  have h1 : t1 + 1 ≤ (q + 1) * v1 := by rw [Nat.add_mul, Nat.one_mul]; omega
  have h2 : (t1 + 1) * B ≤ (q + 1) * v1 * B := Nat.mul_le_mul_right B h1
  have h3 : T + 1 ≤ (q + 1) * D := by
    have h4 : (q + 1) * D = (q + 1) * v1 * B + (q + 1) * v0 := by rw [hD, Nat.mul_add, Nat.mul_assoc]
    rw [Nat.add_mul, Nat.one_mul] at h2
    omega
  have h5 : (T + 1) * P ≤ (q + 1) * D * P := Nat.mul_le_mul_right P h3
  have h6 : (q + 1) * V = (q + 1) * D * P + (q + 1) * vr := by rw [hV, Nat.mul_add, Nat.mul_assoc]
  rw [Nat.add_mul, Nat.one_mul] at h5
  omega

theorem gs_full (B P D T V U v1 v0 t1 u0 u1 : Nat) (h1 : t1 = v1 * B + u1) (hB : 0 < B) (hUV : U < B * V) : GsI B P D T V U v1 v0 t1 u0 (B - 1) (u1 + v1) := by
  obtain ⟨b, rfl⟩ : ∃ b, B = b + 1 := ⟨B - 1, by omega⟩
  refine ⟨?_, by simpa using hUV, by omega⟩
  rw [h1, Nat.add_sub_cancel, Nat.mul_add, Nat.mul_one, Nat.mul_comm]
  omega

/-- The test that the program makes tells whether the guess is above the three words. -/
theorem gs_test (B D T v1 v0 t1 u0 q r : Nat) (hD : D = v1 * B + v0) (hT : T = t1 * B + u0) (hq : q * v1 + r = t1) : q * D ≤ T ↔ q * v0 ≤ r * B + u0 := by
  have h1 : q * D = q * v1 * B + q * v0 := by rw [hD, Nat.mul_add, Nat.mul_assoc]
  have h2 : t1 * B = q * v1 * B + r * B := by rw [← hq, Nat.add_mul]
  omega

theorem gs_down (B P D T V U v1 v0 vr t1 u0 ur q r : Nat) (hD : D = v1 * B + v0) (hT : T = t1 * B + u0) (hV : V = D * P + vr) (hU : U = T * P + ur) (hur : ur < P)
    (h : GsI B P D T V U v1 v0 t1 u0 q r) (hgt : r * B + u0 < q * v0) : 1 ≤ q ∧ GsI B P D T V U v1 v0 t1 u0 (q - 1) (r + v1) := by
  have h1 : T < q * D := Nat.lt_of_not_le fun hle => by
    have := (gs_test B D T v1 v0 t1 u0 q r hD hT h.inv).1 hle
    omega
  have hq : 1 ≤ q := by
    rcases Nat.eq_zero_or_pos q with h0 | h0
    · rw [h0, Nat.zero_mul] at h1; omega
    · exact h0
  refine ⟨hq, ?_⟩
  obtain ⟨p, rfl⟩ : ∃ p, q = p + 1 := ⟨q - 1, by omega⟩
  refine ⟨?_, ?_, by have := h.lt; omega⟩
  · have := h.inv
    rw [Nat.add_sub_cancel]
    rw [Nat.add_mul, Nat.one_mul] at this
    omega
  · rw [Nat.add_sub_cancel]
    have h2 : (T + 1) * P ≤ (p + 1) * D * P := Nat.mul_le_mul_right P h1
    have h3 : (p + 1) * V = (p + 1) * D * P + (p + 1) * vr := by rw [hV, Nat.mul_add, Nat.mul_assoc]
    rw [Nat.add_mul T 1, Nat.one_mul] at h2
    omega

/-- At the end: it is right, or one too great. -/
theorem gs_end (B P D T V U v1 v0 vr t1 u0 ur q r : Nat) (hD : D = v1 * B + v0) (hT : T = t1 * B + u0) (hV : V = D * P + vr) (hU : U = T * P + ur) (hvr : vr ≤ P) (hBD : B ≤ D)
    (h : GsI B P D T V U v1 v0 t1 u0 q r) (hle : q * v0 ≤ r * B + u0) : q * V ≤ U + V := by
  have h1 := (gs_test B D T v1 v0 t1 u0 q r hD hT h.inv).2 hle
  have h2 : q * D * P ≤ T * P := Nat.mul_le_mul_right P h1
  have h3 : q * V = q * D * P + q * vr := by rw [hV, Nat.mul_add, Nat.mul_assoc]
  have h4 : q * vr ≤ D * P := Nat.mul_le_mul (by have := h.lt; omega) hvr
  omega

/-- The quotient of one more place: what is divided is below the base times the divisor. -/
theorem dg_right (V U q : Nat) (h1 : U < (q + 1) * V) (h2 : q * V ≤ U) : U / V = q ∧ U % V = U - q * V := by
  have hV : 0 < V := by
    rcases Nat.eq_zero_or_pos V with h | h
    · rw [h, Nat.mul_zero] at h1; omega
    · exact h
  have h3 : U / V = q := by
    apply Nat.div_eq_of_lt_le
    · exact h2
    · exact h1
  refine ⟨h3, ?_⟩
  have h4 := Nat.div_add_mod U V
  rw [h3, Nat.mul_comm] at h4
  omega

theorem dg_over (V U q : Nat) (h1 : q * V ≤ U + V) (h2 : U < q * V) : 1 ≤ q ∧ U / V = q - 1 ∧ U % V = U + V - q * V := by
  obtain ⟨p, rfl⟩ : ∃ p, q = p + 1 := ⟨q - 1, by
    rcases Nat.eq_zero_or_pos q with h | h
    · rw [h, Nat.zero_mul] at h2; omega
    · omega⟩
  rw [Nat.add_mul, Nat.one_mul] at h1 h2 ⊢
  obtain ⟨h3, h4⟩ := dg_right V U p (by rw [Nat.add_mul, Nat.one_mul]; omega) (by omega)
  exact ⟨by omega, h3, by rw [h4]; omega⟩

/-- One word of the product is taken off: the borrow stays a word. -/
theorem ms_step (x q bo v s1 c1 s c2 hi lo b2 : Nat) (hx : x < 18446744073709551616) (hq : q < 18446744073709551616) (hb : bo < 18446744073709551616) (hv : v < 18446744073709551616)
    (hp : x * q = 18446744073709551616 * hi + lo) (hlo : lo < 18446744073709551616)
    (h1 : s1 + lo = v + 18446744073709551616 * c1) (hs1 : s1 < 18446744073709551616) (h2 : s + bo = s1 + 18446744073709551616 * c2) (hs : s < 18446744073709551616) (hb2 : hi + c1 + c2 = b2) :
    v + 18446744073709551616 * b2 = s + x * q + bo ∧ b2 < 18446744073709551616 ∧ hi + c1 < 18446744073709551616 := by
  have h3 : x * q ≤ 18446744073709551615 * 18446744073709551615 := Nat.mul_le_mul (by omega) (by omega)
  refine ⟨by omega, by omega, by omega⟩

/-- A quotient by words, place by place: the next digit, and what is left. -/
theorem dw_step (B P V A Q R d : Nat) (hR : R = A % (V * P)) (hQ : Q = A / (V * P)) (hd : d = R / (V * (P / B))) (hP : B * (P / B) = P) : A = Q * (V * P) + R := by
  rw [hR, hQ, Nat.mul_comm (A / _)]; exact (Nat.div_add_mod _ _).symm
end Go.Proofs.YtigdflfhepelaaaGreatDoor
/- The mathematics of bits.Div64 for a divisor whose first bit is set: two digits to the base of 2^32. -/
namespace Go.Proofs.YtigdflfhepelaaaGreatDoor
open Go.RowKit
set_option linter.unusedVariables false
set_option maxHeartbeats 400000

/-- A digit of hi B + u by y = y1 B + y0: q is not below it, r is what the first half leaves. -/
structure DvI (B y y1 hi u q r : Nat) : Prop where
  inv : q * y1 + r = hi
  top : hi * B + u < (q + 1) * y

theorem dv_first (B y y1 y0 hi u q r : Nat) (hy : y = y1 * B + y0) (hu : u < B) (h1 : 0 < y1) (hq : hi / y1 = q) (hr : hi % y1 = r) : DvI B y y1 hi u q r ∧ r < y1 := by
  have hlt : r < y1 := by rw [← hr]; exact Nat.mod_lt _ h1
  have hinv : q * y1 + r = hi := by rw [← hq, ← hr, Nat.mul_comm]; exact Nat.div_add_mod _ _
  refine ⟨⟨hinv, ?_⟩, hlt⟩
  have h2 : (hi + 1) * B ≤ (q + 1) * y1 * B := Nat.mul_le_mul_right B (by rw [Nat.add_mul, Nat.one_mul]; omega)
  have h3 : (q + 1) * y = (q + 1) * y1 * B + (q + 1) * y0 := by rw [hy, Nat.mul_add, Nat.mul_assoc]
  rw [Nat.add_mul, Nat.one_mul] at h2
  omega

theorem dv_test (B y y1 y0 hi u q r : Nat) (hy : y = y1 * B + y0) (hq : q * y1 + r = hi) : q * y ≤ hi * B + u ↔ q * y0 ≤ B * r + u := by
  have h1 : q * y = q * y1 * B + q * y0 := by rw [hy, Nat.mul_add, Nat.mul_assoc]
  have h2 : hi * B = q * y1 * B + B * r := by rw [← hq, Nat.add_mul, Nat.mul_comm r B]
  omega

theorem dv_down (B y y1 y0 hi u q r : Nat) (hy : y = y1 * B + y0) (hu : u < B) (hh : hi < y) (h : DvI B y y1 hi u q r) (hc : B ≤ q ∨ B * r + u < q * y0) :
    1 ≤ q ∧ DvI B y y1 hi u (q - 1) (r + y1) := by
  have h1 : hi * B + u < q * y := by
    rcases hc with hc | hc
    · have h2 : (hi + 1) * B ≤ y * B := Nat.mul_le_mul_right B hh
      have h3 : B * y ≤ q * y := Nat.mul_le_mul_right y hc
      rw [Nat.add_mul, Nat.one_mul] at h2
      rw [Nat.mul_comm B y] at h3
      omega
    · exact Nat.lt_of_not_le fun hle => by
        have := (dv_test B y y1 y0 hi u q r hy h.inv).1 hle
        omega
  have hq : 1 ≤ q := by
    rcases Nat.eq_zero_or_pos q with h0 | h0
    · rw [h0, Nat.zero_mul] at h1; omega
    · exact h0
  refine ⟨hq, ?_⟩
  obtain ⟨p, rfl⟩ : ∃ p, q = p + 1 := ⟨q - 1, by omega⟩
  refine ⟨?_, by rw [Nat.add_sub_cancel]; exact h1⟩
  have := h.inv
  rw [Nat.add_sub_cancel]
  rw [Nat.add_mul, Nat.one_mul] at this
  omega

/-- Where the loop is left: the digit is right. -/
theorem dv_end (B y y1 y0 hi u q r : Nat) (hy : y = y1 * B + y0) (h0 : y0 < B) (hh : hi < y) (h : DvI B y y1 hi u q r) (hc : q < B ∧ q * y0 ≤ B * r + u ∨ B ≤ r) :
    q < B ∧ q * y ≤ hi * B + u ∧ hi * B + u < (q + 1) * y := by
  have hinv := h.inv
  have hqB : q < B := by
    rcases hc with hc | hc
    · exact hc.1
    · refine Nat.lt_of_not_le fun hle => ?_
      have h2 : B * y1 ≤ q * y1 := Nat.mul_le_mul_right y1 hle
      rw [Nat.mul_comm B y1] at h2
      omega
  refine ⟨hqB, (dv_test B y y1 y0 hi u q r hy hinv).2 ?_, h.top⟩
  rcases hc with hc | hc
  · exact hc.2
  · have h2 : q * y0 ≤ B * B := Nat.mul_le_mul (by omega) (by omega)
    have h3 : B * B ≤ B * r := Nat.mul_le_mul_left B hc
    omega

/-- Both digits together. -/
theorem dv_both (B y hi u1 u0 q1 q0 m r : Nat) (h1 : q1 * y + m = hi * B + u1) (h0 : q0 * y + r = m * B + u0) : (q1 * B + q0) * y + r = hi * (B * B) + (u1 * B + u0) := by
  have h2 : (q1 * y + m) * B = (hi * B + u1) * B := by rw [h1]
  rw [Nat.add_mul, Nat.add_mul, Nat.mul_assoc hi B B] at h2
  rw [Nat.add_mul, Nat.mul_assoc q1 B y, Nat.mul_comm B y, ← Nat.mul_assoc q1 y B]
  omega

/-- What is left is below the divisor, and so comes out right though each of both products is cut to 64 bits. -/
theorem dv_wrap (B y hi u q m : Nat) (hm : q * y + m = hi * B + u) (hlt : m < 18446744073709551616) :
    ((hi * B % 18446744073709551616 + u) % 18446744073709551616 + 18446744073709551616 - q * y % 18446744073709551616) % 18446744073709551616 = m := by
  generalize hi * B = x at *
  generalize q * y = z at *
  omega

/-- The answer is the quotient and the rest. -/
theorem dv_done (y n q r : Nat) (h : q * y + r = n) (hr : r < y) : n / y = q ∧ n % y = r := by
  subst h
  refine ⟨?_, ?_⟩
  · rw [Nat.mul_comm, Nat.mul_add_div (by omega), Nat.div_eq_of_lt hr, Nat.add_zero]
  · rw [Nat.mul_comm, Nat.mul_add_mod, Nat.mod_eq_of_lt hr]
end Go.Proofs.YtigdflfhepelaaaGreatDoor
/- math/bits: a word whose first bit is set has no leading noughts. -/
namespace Go.Proofs.YtigdflfhepelaaaGreatDoor
open Go.RowKit
set_option linter.unusedVariables false
set_option maxHeartbeats 400000

theorem len64_top (w : World) (x : Nat) (h : 9223372036854775808 ≤ x) (h2 : x < 18446744073709551616) :
    Calls Tryz.prog 98 #[.int .u64 x] w fun e w' => e = .returned (.int .i64 64) ∧ w = w' := by
  have h32 : decide ((4294967296 : Int) ≤ (x : Nat)) = true := by rw [decide_eq_true_iff]; omega
  have h65 : decide ((65536 : Int) ≤ (x : Nat) / 4294967296) = true := by rw [decide_eq_true_iff]; omega
  have h256 : decide ((256 : Int) ≤ (x : Nat) / 4294967296 / 65536) = true := by rw [decide_eq_true_iff]; omega
  have hI := fun w => idx_tab8 (P := Tryz.prog) 9 Tryz.underlying9 .u8 (x / 4294967296 / 65536 / 256 % 256) (by omega) w
  have hB : blen (x / 4294967296 / 65536 / 256 % 256) = 8 := by
    apply Nat.le_antisymm
    · exact blen_le_of_lt (by omega)
    · exact lt_blen_of_le (by omega)
  have hv : ((x / 4294967296 / 65536 / 256 % 256 : Nat) : Int) = (x : Int) / 4294967296 / 65536 / 256 % 256 := by omega
  rw [hv, hB] at hI
  clear hv hB
  go_enter Tryz.func98, Tryz.ntmps98
  generalize hT : (ByteArray.mk _ : ByteArray) = T
  have hT2 : T = tab8 := by rw [← hT]; exact tab8_eq
  rw [← hT2] at hI
  clear hT hT2 h h2
  go_wp2
  go_ret
  exact ⟨rfl, rfl⟩

theorem lead64_top (w : World) (x : Nat) (h : 9223372036854775808 ≤ x) (h2 : x < 18446744073709551616) :
    Calls Tryz.prog 149 #[.int .u64 x] w fun e w' => e = .returned (.int .i64 0) ∧ w = w' := by
  go_enter Tryz.func149, Tryz.ntmps149
  go_wp2_with (fail)
  refine (len64_top _ x h h2).mono ?_
  rintro e w' ⟨rfl, rfl⟩
  go_wp2
  go_ret
  exact ⟨rfl, rfl⟩
end Go.Proofs.YtigdflfhepelaaaGreatDoor
/- math/bits.Div64 for a divisor whose first bit is set. -/
namespace Go.Proofs.YtigdflfhepelaaaGreatDoor
open Go.RowKit
set_option linter.unusedVariables false
set_option maxHeartbeats 400000
set_option maxRecDepth 100000

/-- The digit where the loop is left. -/
theorem dv_dig (B y y1 y0 hi u q r : Nat) (hy : y = y1 * B + y0) (h0 : y0 < B) (hh : hi < y) (h : DvI B y y1 hi u q r) (hc : q < B ∧ q * y0 ≤ B * r + u ∨ B ≤ r) (d : Nat) (hd : (hi * B + u) / y = d) : q = d := by
  obtain ⟨_, h1, h2⟩ := dv_end B y y1 y0 hi u q r hy h0 hh h hc
  rw [← hd]
  exact (Nat.div_eq_of_lt_le h1 h2).symm
theorem dv_casts (hi l d y m : Nat) (h : d * y + m = hi * 4294967296 + l) (hm : m < 18446744073709551616) : ∃ x1 x2 x3 : Nat,
    (hi : Int) * 4294967296 % 18446744073709551616 = (x1 : Int) ∧ IntKind.u64.wrap ((hi : Int) * 4294967296) = (x1 : Int) ∧ ((x1 : Int) + (l : Int)) % 18446744073709551616 = (x2 : Int) ∧ IntKind.u64.wrap ((x1 : Int) + (l : Int)) = (x2 : Int) ∧
    (d : Int) * (y : Int) % 18446744073709551616 = (x3 : Int) ∧ IntKind.u64.wrap ((d : Int) * (y : Int)) = (x3 : Int) ∧ ((x2 : Int) - (x3 : Int)) % 18446744073709551616 = (m : Int) ∧ IntKind.u64.wrap ((x2 : Int) - (x3 : Int)) = (m : Int) := by
  have hw := dv_wrap 4294967296 y hi l d m h hm
  obtain ⟨x1, hx1⟩ : ∃ x1, hi * 4294967296 % 18446744073709551616 = x1 := ⟨_, rfl⟩
  obtain ⟨x2, hx2⟩ : ∃ x2, (x1 + l) % 18446744073709551616 = x2 := ⟨_, rfl⟩
  obtain ⟨x3, hx3⟩ : ∃ x3, d * y % 18446744073709551616 = x3 := ⟨_, rfl⟩
  rw [hx1, hx2, hx3] at hw
  have b3 : x3 < 18446744073709551616 := by rw [← hx3]; exact Nat.mod_lt _ (by decide)
  have e1 : (hi : Int) * 4294967296 % 18446744073709551616 = (x1 : Int) := by clear hw hx2 hx3 h; omega
  have e2 : ((x1 : Int) + (l : Int)) % 18446744073709551616 = (x2 : Int) := by clear hw hx1 hx3 h e1; omega
  have e3 : (d : Int) * (y : Int) % 18446744073709551616 = (x3 : Int) := by rw [← hx3, Int.natCast_emod, Int.natCast_mul]; rfl
  have e4 : ((x2 : Int) - (x3 : Int)) % 18446744073709551616 = (m : Int) := by clear hx1 hx2 hx3 h e1 e2 e3; omega
  refine ⟨x1, x2, x3, e1, ?_, e2, ?_, e3, ?_, e4, ?_⟩ <;> rw [IntKind.wrap_u64] <;> assumption
theorem dv_casts2 (m y1 e s : Nat) (he : m / y1 = e) (hs : m % y1 = s) (hm : m < 18446744073709551616) : ∃ p : Nat,
    (m : Int).tdiv (y1 : Int) = (e : Int) ∧ (m : Int) / (y1 : Int) = (e : Int) ∧ IntKind.u64.wrap (e : Int) = (e : Int) ∧ (e : Int) % 18446744073709551616 = (e : Int) ∧
    (e : Int) * (y1 : Int) = (p : Int) ∧ IntKind.u64.wrap (p : Int) = (p : Int) ∧ (p : Int) % 18446744073709551616 = (p : Int) ∧ (m : Int) - (p : Int) = (s : Int) ∧ IntKind.u64.wrap (s : Int) = (s : Int) ∧ (s : Int) % 18446744073709551616 = (s : Int) := by
  have be : e ≤ m := by rw [← he]; exact Nat.div_le_self _ _
  have h1 : (m : Int) / (y1 : Int) = (e : Int) := by rw [← he, Int.natCast_ediv]
  have h0 : (m : Int).tdiv (y1 : Int) = (e : Int) := by rw [Int.tdiv_eq_ediv_of_nonneg (by omega)]; exact h1
  have hm2 : e * y1 + s = m := by rw [← he, ← hs, Nat.mul_comm]; exact Nat.div_add_mod _ _
  obtain ⟨p, hp⟩ : ∃ p, e * y1 = p := ⟨_, rfl⟩
  rw [hp] at hm2
  have h2 : (e : Int) * (y1 : Int) = (p : Int) := by rw [← hp, Int.natCast_mul]
  clear hp he hs
  have h3 : IntKind.u64.wrap (e : Int) = (e : Int) := by rw [IntKind.wrap_u64]; omega
  have h4 : IntKind.u64.wrap (p : Int) = (p : Int) := by rw [IntKind.wrap_u64]; omega
  have h5 : IntKind.u64.wrap (s : Int) = (s : Int) := by rw [IntKind.wrap_u64]; omega
  exact ⟨p, h0, h1, h3, by omega, h2, h4, by omega, by omega, h5, by omega⟩
theorem dv_casts3 (d1 d0 q : Nat) (h : d1 * 4294967296 + d0 = q) (hq : q < 18446744073709551616) : ∃ x7 : Nat,
    (d1 : Int) * 4294967296 = (x7 : Int) ∧ IntKind.u64.wrap (x7 : Int) = (x7 : Int) ∧ (x7 : Int) % 18446744073709551616 = (x7 : Int) ∧ (x7 : Int) + (d0 : Int) = (q : Int) ∧ IntKind.u64.wrap (q : Int) = (q : Int) ∧ (q : Int) % 18446744073709551616 = (q : Int) := by
  obtain ⟨x7, hx7⟩ : ∃ x7, d1 * 4294967296 = x7 := ⟨_, rfl⟩
  refine ⟨x7, by omega, by rw [IntKind.wrap_u64]; omega, by omega, by omega, by rw [IntKind.wrap_u64]; omega, by omega⟩
theorem dv_total (hi lo y l1 l0 d1 d0 m k q r : Nat) (hl1 : lo / 4294967296 = l1) (hl0 : lo % 4294967296 = l0) (hd : d1 * y + m = hi * 4294967296 + l1) (hk : d0 * y + k = m * 4294967296 + l0) (hky : k < y) (hh : hi < y) (hlo : lo < 18446744073709551616)
    (hq : (hi * 18446744073709551616 + lo) / y = q) (hr : (hi * 18446744073709551616 + lo) % y = r) : d1 * 4294967296 + d0 = q ∧ q < 18446744073709551616 ∧ r = k := by
  have hb := dv_both 4294967296 y hi l1 l0 d1 d0 m k hd hk
  rw [show hi * (4294967296 * 4294967296) + (l1 * 4294967296 + l0) = hi * 18446744073709551616 + lo by omega] at hb
  have h := dv_done y _ _ k hb hky
  rw [hq, hr] at h
  refine ⟨h.1.symm, ?_, h.2⟩
  rw [← hq]
  exact Nat.div_lt_of_lt_mul (by have := Nat.mul_le_mul_right 18446744073709551616 (show hi + 1 ≤ y from hh); omega)

set_option maxHeartbeats 8000000 in
theorem div64_calls (w : World) (hi lo y q r : Nat) (hy : 9223372036854775808 ≤ y) (hy2 : y < 18446744073709551616) (hl : lo < 18446744073709551616) (hh : hi < y)
    (hq : (hi * 18446744073709551616 + lo) / y = q) (hr : (hi * 18446744073709551616 + lo) % y = r) :
    Calls Tryz.prog 142 #[.int .u64 hi, .int .u64 lo, .int .u64 y] w fun e w' => e = .returned (.tuple #[.int .u64 q, .int .u64 r]) ∧ Ext w w' := by
  have hy0 : ((y : Int) == 0) = false := by rw [beq_eq_false_iff_ne]; omega
  have hyi0 : ¬ ((y : Int) = 0) := by omega
  have hyh : decide ((y : Int) ≤ (hi : Int)) = false := by rw [decide_eq_false_iff_not]; omega
  by_cases h0 : hi = 0
  · subst h0
    rw [Nat.zero_mul, Nat.zero_add] at hq hr
    have fq : (lo : Int) / (y : Int) = (q : Int) := by rw [← hq, Int.natCast_ediv]
    have fr : (lo : Int) % (y : Int) = (r : Int) := by rw [← hr, Int.natCast_emod]
    have fq2 : (lo : Int).tdiv (y : Int) = (q : Int) := by rw [Int.tdiv_eq_ediv_of_nonneg (by omega)]; exact fq
    have fr2 : (lo : Int).tmod (y : Int) = (r : Int) := by rw [Int.tmod_eq_emod_of_nonneg (by omega)]; exact fr
    have bq : q ≤ lo := by rw [← hq]; exact Nat.div_le_self _ _
    have br : r < y := by rw [← hr]; exact Nat.mod_lt _ (by omega)
    have wq : IntKind.u64.wrap (q : Int) = (q : Int) := by rw [IntKind.wrap_u64]; omega
    have wr : IntKind.u64.wrap (r : Int) = (r : Int) := by rw [IntKind.wrap_u64]; omega
    have mq : (q : Int) % 18446744073709551616 = (q : Int) := by omega
    have mr : (r : Int) % 18446744073709551616 = (r : Int) := by omega
    clear hq hr bq br
    go_enter Tryz.func142, Tryz.ntmps142
    go_wp2_with (go_region)
    all_goals (go_ret2)
    all_goals exact ⟨rfl, (Ext.refl w).drew⟩
  · have hh0 : ((hi : Int) == 0) = false := by rw [beq_eq_false_iff_ne]; omega
    obtain ⟨y1, hy1⟩ : ∃ y1, y / 4294967296 = y1 := ⟨_, rfl⟩
    obtain ⟨y0, hyy0⟩ : ∃ y0, y % 4294967296 = y0 := ⟨_, rfl⟩
    obtain ⟨l1, hl1⟩ : ∃ l1, lo / 4294967296 = l1 := ⟨_, rfl⟩
    obtain ⟨l0, hl0⟩ : ∃ l0, lo % 4294967296 = l0 := ⟨_, rfl⟩
    have fy1 : (y : Int) / 4294967296 = (y1 : Int) := by omega
    have fl1 : (lo : Int) / 4294967296 = (l1 : Int) := by omega
    have fy0 : bits .and .u64 (y : Int) 4294967295 = (y0 : Int) := by
      rw [show (4294967295 : Int) = ((4294967295 : Nat) : Int) from rfl, u64_and_nat _ _ (by omega) (by decide), show (4294967295 : Nat) = 2 ^ 32 - 1 from rfl, Nat.and_two_pow_sub_one_eq_mod, show (2 : Nat) ^ 32 = 4294967296 from rfl, hyy0]
    have fl0 : bits .and .u64 (lo : Int) 4294967295 = (l0 : Int) := by
      rw [show (4294967295 : Int) = ((4294967295 : Nat) : Int) from rfl, u64_and_nat _ _ (by omega) (by decide), show (4294967295 : Nat) = 2 ^ 32 - 1 from rfl, Nat.and_two_pow_sub_one_eq_mod, show (2 : Nat) ^ 32 = 4294967296 from rfl, hl0]
    have fn : bits .or .u64 (hi : Int) ((lo : Int) / 18446744073709551616) = (hi : Int) := by
      rw [show (lo : Int) / 18446744073709551616 = ((0 : Nat) : Int) by omega, u64_or_nat _ _ (by omega) (by decide), Nat.or_zero]
    obtain ⟨q1, hq1⟩ : ∃ q1, hi / y1 = q1 := ⟨_, rfl⟩
    obtain ⟨r1, hr1⟩ : ∃ r1, hi % y1 = r1 := ⟨_, rfl⟩
    obtain ⟨p1, fq1, fq1b, wq1, mq1, fp1, wp1, mp1, fr1, wr1, mr1⟩ := dv_casts2 hi y1 q1 r1 hq1 hr1 (by omega)
    have y1n : ¬ ((y1 : Int) = 0) := by omega
    have yw : IntKind.u64.wrap (y : Int) = (y : Int) := by rw [IntKind.wrap_u64]; omega
    have hiw : IntKind.u64.wrap (hi : Int) = (hi : Int) := by rw [IntKind.wrap_u64]; omega
    have low : IntKind.u64.wrap (lo : Int) = (lo : Int) := by rw [IntKind.wrap_u64]; omega
    have yw2 : (y : Int) % 18446744073709551616 = (y : Int) := by omega
    have hiw2 : (hi : Int) % 18446744073709551616 = (hi : Int) := by omega
    have low2 : (lo : Int) % 18446744073709551616 = (lo : Int) := by omega
    have HY : Hid (y = y1 * 4294967296 + y0) := by show y = y1 * 4294967296 + y0; omega
    have hy1b : y1 < 4294967296 := by omega
    have hl1b : l1 < 4294967296 := by omega
    have hl0b : l0 < 4294967296 := by omega
    have hy0b : y0 < 4294967296 := by omega
    have hy1p : 0 < y1 := by omega
    have hq1b : q1 < 18446744073709551616 := by rw [← hq1]; exact Nat.lt_of_le_of_lt (Nat.div_le_self _ _) (by omega)
    have HDA : Hid (DvI 4294967296 y y1 hi l1 q1 r1 ∧ r1 < y1) := dv_first 4294967296 y y1 y0 hi l1 q1 r1 HY.out hl1b hy1p hq1 hr1
    obtain ⟨d1, hd1⟩ : ∃ d1, (hi * 4294967296 + l1) / y = d1 := ⟨_, rfl⟩
    obtain ⟨m, hmm⟩ : ∃ m, (hi * 4294967296 + l1) % y = m := ⟨_, rfl⟩
    have AD := Lib.hid hd1
    have hmy : m < y := by rw [← hmm]; exact Nat.mod_lt _ (by omega)
    have hm64 : m < 18446744073709551616 := by omega
    have hdm : d1 * y + m = hi * 4294967296 + l1 := by rw [← hd1, ← hmm, Nat.mul_comm]; exact Nat.div_add_mod _ _
    obtain ⟨x1, x2, x3, GA0⟩ := dv_casts hi l1 d1 y m hdm hm64
    have GA := Lib.hid GA0
    obtain ⟨e1, he1⟩ : ∃ e1, m / y1 = e1 := ⟨_, rfl⟩
    obtain ⟨s1, hs1⟩ : ∃ s1, m % y1 = s1 := ⟨_, rfl⟩
    have he1b : e1 < 18446744073709551616 := by rw [← he1]; exact Nat.lt_of_le_of_lt (Nat.div_le_self _ _) hm64
    obtain ⟨p2, GB0⟩ := dv_casts2 m y1 e1 s1 he1 hs1 hm64
    have GB := Lib.hid GB0
    have HDB : Hid (DvI 4294967296 y y1 m l0 e1 s1 ∧ s1 < y1) := dv_first 4294967296 y y1 y0 m l0 e1 s1 HY.out hl0b hy1p he1 hs1
    obtain ⟨d0, hd0⟩ : ∃ d0, (m * 4294967296 + l0) / y = d0 := ⟨_, rfl⟩
    obtain ⟨k, hkk⟩ : ∃ k, (m * 4294967296 + l0) % y = k := ⟨_, rfl⟩
    have BD := Lib.hid hd0
    have hky : k < y := by rw [← hkk]; exact Nat.mod_lt _ (by omega)
    have hdk : d0 * y + k = m * 4294967296 + l0 := by rw [← hd0, ← hkk, Nat.mul_comm]; exact Nat.div_add_mod _ _
    obtain ⟨x4, x5, x6, GC0⟩ := dv_casts m l0 d0 y k hdk (by omega)
    have GC := Lib.hid GC0
    obtain ⟨htq, htb, hkr⟩ := dv_total hi lo y l1 l0 d1 d0 m k q r hl1 hl0 hdm hdk hky hh hl hq hr
    obtain ⟨x7, GD0⟩ := dv_casts3 d1 d0 q htq htb
    have GD := Lib.hid GD0
    subst hkr
    have HN0 := Lib.hid (And.intro hy (And.intro hy2 (And.intro hh (And.intro hmy (And.intro hy1b (And.intro hl1b (And.intro hl0b (And.intro hy0b hy1p))))))))
    have HN1 := Lib.hid (And.intro hq1b he1b)
    clear GA0 GB0 GC0 GD0 hq hr htq htb hdk hdm hd1 hmm hd0 hkk he1 hs1 hq1 hr1 hy1 hyy0 hl1 hl0 hy hy2 hmy hy1b hl1b hl0b hy0b hy1p hq1b he1b hl hm64 hky
    go_enter Tryz.func142, Tryz.ntmps142
    go_wp2_with (fail)
    refine (lead64_top _ y HN0.out.1 HN0.out.2.1).mono ?_
    rintro e w' ⟨rfl, rfl⟩
    go_upto_block 0 with (fail)
    clear yw hiw low yw2 hiw2 low2 hh hy0 hyi0 hyh hh0 fy1 fl1 fy0 fl0 fn fq1 fq1b wq1 mq1 fp1 wp1 mp1 fr1 wr1 mr1
    go_cut [15] from 67 (fun s wx => s = .int .u64 (d1 : Nat) ∧ wx = w)
    case first =>
      go_wp2
      go_loopw [15, 16] (fun t s wr => ∃ (q r : Nat), t = .int .u64 (q : Nat) ∧ s = .int .u64 (r : Nat) ∧ Hid (DvI 4294967296 y y1 hi l1 q r) ∧ r < 4294967296 ∧ q ≤ q1 ∧ wr = w) (fun t _ _ => (intOf t).toNat)
      case atStart => exact ⟨q1, r1, rfl, rfl, HDA.out.1, Nat.lt_trans HDA.out.2 HN0.out.2.2.2.2.1, Nat.le_refl _, rfl⟩
      case round =>
        obtain ⟨q, r, rfl, rfl, HO, hr, hq, rfl⟩ := hrel
        obtain ⟨hy, hy2, hh, hmy, hy1b, hl1b, hl0b, hy0b, hy1p⟩ := HN0.out
        obtain ⟨hq1b, he1b⟩ := HN1.out
        have hrw : IntKind.u64.wrap (r : Int) = (r : Int) := by rw [IntKind.wrap_u64]; omega
        have f1 : 4294967296 * (r : Int) = ((4294967296 * r : Nat) : Int) := by omega
        obtain ⟨x1, hx1⟩ : ∃ x1, 4294967296 * r = x1 := ⟨_, rfl⟩
        rw [hx1] at f1
        have f2 : (x1 : Int) % 18446744073709551616 = (x1 : Int) := by omega
        have f2w : IntKind.u64.wrap (x1 : Int) = (x1 : Int) := by rw [IntKind.wrap_u64]; omega
        obtain ⟨x2, hx2⟩ : ∃ x2, x1 + l1 = x2 := ⟨_, rfl⟩
        have f3 : (x1 : Int) + (l1 : Int) = (x2 : Int) := by omega
        have f4 : (x2 : Int) % 18446744073709551616 = (x2 : Int) := by omega
        have f4w : IntKind.u64.wrap (x2 : Int) = (x2 : Int) := by rw [IntKind.wrap_u64]; omega
        by_cases hc : 4294967296 ≤ q ∨ 4294967296 * r + l1 < q * y0
        · have hdn := dv_down 4294967296 y y1 y0 hi l1 q r HY.out (by omega) hh HO.out hc
          obtain ⟨p, hp⟩ : ∃ p, q - 1 = p := ⟨_, rfl⟩
          rw [hp] at hdn
          obtain ⟨r2, hr2⟩ : ∃ r2, r + y1 = r2 := ⟨_, rfl⟩
          rw [hr2] at hdn
          have hqp := hdn.1
          have HN := Lib.hid hdn.2
          have g1 : (q : Int) - 1 = (p : Int) := by omega
          have g2 : (p : Int) % 18446744073709551616 = (p : Int) := by omega
          have g2w : IntKind.u64.wrap (p : Int) = (p : Int) := by rw [IntKind.wrap_u64]; omega
          have g3 : (r : Int) + (y1 : Int) = (r2 : Int) := by omega
          have g4 : (r2 : Int) % 18446744073709551616 = (r2 : Int) := by omega
          have g4w : IntKind.u64.wrap (r2 : Int) = (r2 : Int) := by rw [IntKind.wrap_u64]; omega
          have HC2 : Hid (4294967296 ≤ q ∨ q < 4294967296 ∧ x2 < q * y0) := by
            rcases Nat.lt_or_ge q 4294967296 with h | h
            · rcases hc with hc | hc
              · omega
              · exact .inr ⟨h, by omega⟩
            · exact .inl h
          have HR2 : Hid (p < q) := by show p < q; omega
          have hpq : p ≤ q1 := by omega
          clear hc hdn hp hr2 hx1 hx2 hqp HO hr hq
          rcases HC2.out with hc | ⟨hc, hc2⟩
          · have hd : decide ((4294967296 : Int) ≤ (q : Int)) = true := by rw [decide_eq_true_iff]; omega
            clear hc
            by_cases he : 4294967296 ≤ r2
            · have hde : decide ((4294967296 : Int) ≤ (r2 : Int)) = true := by rw [decide_eq_true_iff]; omega
              have HF := Lib.hid (dv_dig 4294967296 y y1 y0 hi l1 p r2 HY.out (by omega) hh HN.out (.inr he) d1 AD.out)
              clear he
              clear hy hy2 hh hmy hy1b hl1b hl0b hy0b hy1p hq1b he1b
              go_wp2
              go_meet
              case rel => exact ⟨by rw [HF.out], by first | rfl | trivial⟩
            · have hde : decide ((4294967296 : Int) ≤ (r2 : Int)) = false := by rw [decide_eq_false_iff_not]; omega
              have he2 : r2 < 4294967296 := by omega
              clear he
              clear hy hy2 hh hmy hy1b hl1b hl0b hy0b hy1p hq1b he1b
              go_wp2
              go_roundw
              case rel => exact ⟨p, r2, rfl, rfl, HN, he2, hpq, by first | rfl | trivial⟩
              case measure => have := HR2.out; simp [intOf]; omega
          · have hd : decide ((4294967296 : Int) ≤ (q : Int)) = false := by rw [decide_eq_false_iff_not]; omega
            obtain ⟨z, hz⟩ : ∃ z, q * y0 = z := ⟨_, rfl⟩
            rw [hz] at hc2
            have hzb : z < 18446744073709551616 := by
              rw [← hz]
              exact Nat.lt_of_le_of_lt (Nat.mul_le_mul (show q ≤ 4294967295 by omega) (show y0 ≤ 4294967295 by omega)) (by decide)
            have z1 : (q : Int) * (y0 : Int) = (z : Int) := by rw [← hz, Int.natCast_mul]
            have z2 : (z : Int) % 18446744073709551616 = (z : Int) := by omega
            have z2w : IntKind.u64.wrap (z : Int) = (z : Int) := by rw [IntKind.wrap_u64]; omega
            clear hc hz hzb
            by_cases he : 4294967296 ≤ r2
            · have hde : decide ((4294967296 : Int) ≤ (r2 : Int)) = true := by rw [decide_eq_true_iff]; omega
              have HF := Lib.hid (dv_dig 4294967296 y y1 y0 hi l1 p r2 HY.out (by omega) hh HN.out (.inr he) d1 AD.out)
              clear he
              clear hy hy2 hh hmy hy1b hl1b hl0b hy0b hy1p hq1b he1b
              go_wp2
              go_meet
              case rel => exact ⟨by rw [HF.out], by first | rfl | trivial⟩
            · have hde : decide ((4294967296 : Int) ≤ (r2 : Int)) = false := by rw [decide_eq_false_iff_not]; omega
              have he2 : r2 < 4294967296 := by omega
              clear he
              clear hy hy2 hh hmy hy1b hl1b hl0b hy0b hy1p hq1b he1b
              go_wp2
              go_roundw
              case rel => exact ⟨p, r2, rfl, rfl, HN, he2, hpq, by first | rfl | trivial⟩
              case measure => have := HR2.out; simp [intOf]; omega
        · have hq2 : q < 4294967296 := by omega
          have hq3 : q * y0 ≤ 4294967296 * r + l1 := by omega
          have HF := Lib.hid (dv_dig 4294967296 y y1 y0 hi l1 q r HY.out (by omega) hh HO.out (.inl ⟨hq2, hq3⟩) d1 AD.out)
          have hd : decide ((4294967296 : Int) ≤ (q : Int)) = false := by rw [decide_eq_false_iff_not]; omega
          obtain ⟨z, hz⟩ : ∃ z, q * y0 = z := ⟨_, rfl⟩
          rw [hz] at hq3 hc
          have z1 : (q : Int) * (y0 : Int) = (z : Int) := by rw [← hz, Int.natCast_mul]
          have z2 : (z : Int) % 18446744073709551616 = (z : Int) := by omega
          have z2w : IntKind.u64.wrap (z : Int) = (z : Int) := by rw [IntKind.wrap_u64]; omega
          have hn2 : ¬ x2 < z := by omega
          clear hc hq2 hq3 hz hx1 hx2 HO hr hq
          clear hy hy2 hh hmy hy1b hl1b hl0b hy0b hy1p hq1b he1b
          go_wp2
          go_meet
          case rel => exact ⟨by rw [HF.out], by first | rfl | trivial⟩
    case rest =>
      obtain ⟨rfl, hwc⟩ := hcut; subst wc
      obtain ⟨A1, A1w, A2, A2w, A3, A3w, A4, A4w⟩ := GA.out
      obtain ⟨B1, B1b, B1w, B1m, B2, B2w, B2m, B3, B3w, B3m⟩ := GB.out
      go_upto_block 2 with (fail)
      clear A1 A1w A2 A2w A3 A3w A4 A4w B1 B1b B1w B1m B2 B2w B2m B3 B3w B3m y1n GA GB
      go_cut [18] from 102 (fun s wx => s = .int .u64 (d0 : Nat) ∧ wx = w)
      case first =>
        go_wp2
        go_loopw [18, 16] (fun t s wr => ∃ (q r : Nat), t = .int .u64 (q : Nat) ∧ s = .int .u64 (r : Nat) ∧ Hid (DvI 4294967296 y y1 m l0 q r) ∧ r < 4294967296 ∧ q ≤ e1 ∧ wr = w) (fun t _ _ => (intOf t).toNat)
        case atStart => exact ⟨e1, s1, rfl, rfl, HDB.out.1, Nat.lt_trans HDB.out.2 HN0.out.2.2.2.2.1, Nat.le_refl _, rfl⟩
        case round =>
          obtain ⟨q, r, rfl, rfl, HO, hr, hq, rfl⟩ := hrel
          obtain ⟨hy, hy2, hh, hmy, hy1b, hl1b, hl0b, hy0b, hy1p⟩ := HN0.out
          obtain ⟨hq1b, he1b⟩ := HN1.out
          have hrw : IntKind.u64.wrap (r : Int) = (r : Int) := by rw [IntKind.wrap_u64]; omega
          have f1 : 4294967296 * (r : Int) = ((4294967296 * r : Nat) : Int) := by omega
          obtain ⟨x1, hx1⟩ : ∃ x1, 4294967296 * r = x1 := ⟨_, rfl⟩
          rw [hx1] at f1
          have f2 : (x1 : Int) % 18446744073709551616 = (x1 : Int) := by omega
          have f2w : IntKind.u64.wrap (x1 : Int) = (x1 : Int) := by rw [IntKind.wrap_u64]; omega
          obtain ⟨x2, hx2⟩ : ∃ x2, x1 + l0 = x2 := ⟨_, rfl⟩
          have f3 : (x1 : Int) + (l0 : Int) = (x2 : Int) := by omega
          have f4 : (x2 : Int) % 18446744073709551616 = (x2 : Int) := by omega
          have f4w : IntKind.u64.wrap (x2 : Int) = (x2 : Int) := by rw [IntKind.wrap_u64]; omega
          by_cases hc : 4294967296 ≤ q ∨ 4294967296 * r + l0 < q * y0
          · have hdn := dv_down 4294967296 y y1 y0 m l0 q r HY.out (by omega) hmy HO.out hc
            obtain ⟨p, hp⟩ : ∃ p, q - 1 = p := ⟨_, rfl⟩
            rw [hp] at hdn
            obtain ⟨r2, hr2⟩ : ∃ r2, r + y1 = r2 := ⟨_, rfl⟩
            rw [hr2] at hdn
            have hqp := hdn.1
            have HN := Lib.hid hdn.2
            have g1 : (q : Int) - 1 = (p : Int) := by omega
            have g2 : (p : Int) % 18446744073709551616 = (p : Int) := by omega
            have g2w : IntKind.u64.wrap (p : Int) = (p : Int) := by rw [IntKind.wrap_u64]; omega
            have g3 : (r : Int) + (y1 : Int) = (r2 : Int) := by omega
            have g4 : (r2 : Int) % 18446744073709551616 = (r2 : Int) := by omega
            have g4w : IntKind.u64.wrap (r2 : Int) = (r2 : Int) := by rw [IntKind.wrap_u64]; omega
            have HC2 : Hid (4294967296 ≤ q ∨ q < 4294967296 ∧ x2 < q * y0) := by
              rcases Nat.lt_or_ge q 4294967296 with h | h
              · rcases hc with hc | hc
                · omega
                · exact .inr ⟨h, by omega⟩
              · exact .inl h
            have HR2 : Hid (p < q) := by show p < q; omega
            have hpq : p ≤ e1 := by omega
            clear hc hdn hp hr2 hx1 hx2 hqp HO hr hq
            rcases HC2.out with hc | ⟨hc, hc2⟩
            · have hd : decide ((4294967296 : Int) ≤ (q : Int)) = true := by rw [decide_eq_true_iff]; omega
              clear hc
              by_cases he : 4294967296 ≤ r2
              · have hde : decide ((4294967296 : Int) ≤ (r2 : Int)) = true := by rw [decide_eq_true_iff]; omega
                have HF := Lib.hid (dv_dig 4294967296 y y1 y0 m l0 p r2 HY.out (by omega) hmy HN.out (.inr he) d0 BD.out)
                clear he
                clear hy hy2 hh hmy hy1b hl1b hl0b hy0b hy1p hq1b he1b
                go_wp2
                go_meet
                case rel => exact ⟨by rw [HF.out], by first | rfl | trivial⟩
              · have hde : decide ((4294967296 : Int) ≤ (r2 : Int)) = false := by rw [decide_eq_false_iff_not]; omega
                have he2 : r2 < 4294967296 := by omega
                clear he
                clear hy hy2 hh hmy hy1b hl1b hl0b hy0b hy1p hq1b he1b
                go_wp2
                go_roundw
                case rel => exact ⟨p, r2, rfl, rfl, HN, he2, hpq, by first | rfl | trivial⟩
                case measure => have := HR2.out; simp [intOf]; omega
            · have hd : decide ((4294967296 : Int) ≤ (q : Int)) = false := by rw [decide_eq_false_iff_not]; omega
              obtain ⟨z, hz⟩ : ∃ z, q * y0 = z := ⟨_, rfl⟩
              rw [hz] at hc2
              have hzb : z < 18446744073709551616 := by
                rw [← hz]
                exact Nat.lt_of_le_of_lt (Nat.mul_le_mul (show q ≤ 4294967295 by omega) (show y0 ≤ 4294967295 by omega)) (by decide)
              have z1 : (q : Int) * (y0 : Int) = (z : Int) := by rw [← hz, Int.natCast_mul]
              have z2 : (z : Int) % 18446744073709551616 = (z : Int) := by omega
              have z2w : IntKind.u64.wrap (z : Int) = (z : Int) := by rw [IntKind.wrap_u64]; omega
              clear hc hz hzb
              by_cases he : 4294967296 ≤ r2
              · have hde : decide ((4294967296 : Int) ≤ (r2 : Int)) = true := by rw [decide_eq_true_iff]; omega
                have HF := Lib.hid (dv_dig 4294967296 y y1 y0 m l0 p r2 HY.out (by omega) hmy HN.out (.inr he) d0 BD.out)
                clear he
                clear hy hy2 hh hmy hy1b hl1b hl0b hy0b hy1p hq1b he1b
                go_wp2
                go_meet
                case rel => exact ⟨by rw [HF.out], by first | rfl | trivial⟩
              · have hde : decide ((4294967296 : Int) ≤ (r2 : Int)) = false := by rw [decide_eq_false_iff_not]; omega
                have he2 : r2 < 4294967296 := by omega
                clear he
                clear hy hy2 hh hmy hy1b hl1b hl0b hy0b hy1p hq1b he1b
                go_wp2
                go_roundw
                case rel => exact ⟨p, r2, rfl, rfl, HN, he2, hpq, by first | rfl | trivial⟩
                case measure => have := HR2.out; simp [intOf]; omega
          · have hq2 : q < 4294967296 := by omega
            have hq3 : q * y0 ≤ 4294967296 * r + l0 := by omega
            have HF := Lib.hid (dv_dig 4294967296 y y1 y0 m l0 q r HY.out (by omega) hmy HO.out (.inl ⟨hq2, hq3⟩) d0 BD.out)
            have hd : decide ((4294967296 : Int) ≤ (q : Int)) = false := by rw [decide_eq_false_iff_not]; omega
            obtain ⟨z, hz⟩ : ∃ z, q * y0 = z := ⟨_, rfl⟩
            rw [hz] at hq3 hc
            have z1 : (q : Int) * (y0 : Int) = (z : Int) := by rw [← hz, Int.natCast_mul]
            have z2 : (z : Int) % 18446744073709551616 = (z : Int) := by omega
            have z2w : IntKind.u64.wrap (z : Int) = (z : Int) := by rw [IntKind.wrap_u64]; omega
            have hn2 : ¬ x2 < z := by omega
            clear hc hq2 hq3 hz hx1 hx2 HO hr hq
            clear hy hy2 hh hmy hy1b hl1b hl0b hy0b hy1p hq1b he1b
            go_wp2
            go_meet
            case rel => exact ⟨by rw [HF.out], by first | rfl | trivial⟩
      case rest =>
        obtain ⟨rfl, hwc⟩ := hcut; subst wc
        obtain ⟨C1, C1w, C2, C2w, C3, C3w, C4, C4w⟩ := GC.out
        obtain ⟨D2, D2w, D2m, D3, D3w, D3m⟩ := GD.out
        go_wp2
        go_ret2
        exact ⟨rfl, Ext.refl _⟩
end Go.Proofs.YtigdflfhepelaaaGreatDoor
/- The mathematics of reciprocals by steps, of the quotient by a reciprocal, and of the document's division bit by bit. -/
namespace Go.Proofs.YtigdflfhepelaaaGreatDoor
open Go.RowKit
set_option linter.unusedVariables false
set_option maxHeartbeats 400000

theorem two_sq (c X : Nat) (h : c ≤ X) : 2 * (c * X) ≤ X * X + c * c := by
  obtain ⟨d, rfl⟩ : ∃ d, X = c + d := ⟨X - c, by omega⟩
  have h1 : c * (c + d) = c * c + c * d := Nat.mul_add _ _ _
  have h2 : (c + d) * (c + d) = c * c + c * d + (c * d + d * d) := by rw [Nat.add_mul, Nat.mul_add, Nat.mul_add, Nat.mul_comm d c]
  omega

/-- A step of a reciprocal: S W = X are powers of 2, Z S = X X; r times b is not above X; then the step's answer times b is not above Z, and not 0. -/
theorem bl_step (b r S W X Z over : Nat) (hS : 0 < S) (hX : S * W = X) (hZ : Z * S = X * X) (hr : 1 ≤ r) (hW : 2 ≤ W) (hrb : r * b ≤ X) (ho : r * r * b / S + 1 = over) :
    over ≤ 2 * (r * W) ∧ 1 ≤ 2 * (r * W) - over ∧ (2 * (r * W) - over) * b ≤ Z := by
  have h1 : r * r * b ≤ r * W * S := by
    have : r * (r * b) ≤ r * X := Nat.mul_le_mul_left r hrb
    rw [← hX, Nat.mul_comm S W, ← Nat.mul_assoc, ← Nat.mul_assoc] at this
    exact this
  have h2 : r * r * b / S ≤ r * W := Nat.div_le_of_le_mul (by rw [Nat.mul_comm S]; exact h1)
  have h3 : 1 * 2 ≤ r * W := Nat.mul_le_mul hr hW
  have h4 : r * r * b < over * S := by
    rw [← ho, Nat.mul_comm _ S]
    exact Nat.lt_mul_div_succ _ hS
  refine ⟨by omega, by omega, ?_⟩
  obtain ⟨R, hR⟩ : ∃ R, 2 * (r * W) - over = R := ⟨_, rfl⟩
  rw [hR]
  have h5 : R + over = 2 * (r * W) := by omega
  have h6 : R * S + over * S = 2 * (r * X) := by
    rw [← Nat.add_mul, h5, ← hX, Nat.mul_comm S W, Nat.mul_assoc, Nat.mul_assoc]
  have h7 : R * S + r * r * b ≤ 2 * (r * X) := by omega
  have h8 := Nat.mul_le_mul_right b h7
  have h9 : (R * S + r * r * b) * b = R * b * S + (r * b) * (r * b) := by
    rw [Nat.add_mul, Nat.mul_right_comm R S b, Nat.mul_assoc r r b, Nat.mul_comm r (r * b), Nat.mul_assoc (r * b) r b]
  have h10 : 2 * (r * X) * b = 2 * (r * b * X) := by rw [Nat.mul_assoc, Nat.mul_right_comm r X b]
  have h11 := two_sq (r * b) X hrb
  rw [h9, h10] at h8
  have h12 : R * b * S ≤ Z * S := by rw [hZ]; omega
  exact Nat.le_of_mul_le_mul_right h12 hS

/-- Of the divisor the first bits, and a unit more: what times that is not above the smaller power, is times the divisor not above the greater one. -/
theorem bl_cut (b O b2 R Y : Nat) (hO : 0 < O) (hb : b / O + 1 = b2) (h : R * b2 ≤ Y) : R * b ≤ Y * O := by
  have h1 : b ≤ b2 * O := by
    have := Nat.lt_mul_div_succ b hO
    rw [Nat.mul_comm, ← hb]
    omega
  have h2 : R * b ≤ R * (b2 * O) := Nat.mul_le_mul_left R h1
  have h3 : R * b2 * O ≤ Y * O := Nat.mul_le_mul_right O h
  rw [Nat.mul_assoc] at h3
  omega

/-- The quotient by a reciprocal is not above the quotient. -/
theorem nw_le (a b S1 K1 R q : Nat) (hS : 0 < S1) (hK : 0 < K1) (hR : R * b ≤ S1 * K1) (hq : a / S1 * R / K1 = q) : q * b ≤ a := by
  have h1 : q * K1 ≤ a / S1 * R := by rw [← hq]; exact Nat.div_mul_le_self _ _
  have h2 : q * K1 * b ≤ a / S1 * R * b := Nat.mul_le_mul_right b h1
  have h3 : a / S1 * (R * b) ≤ a / S1 * (S1 * K1) := Nat.mul_le_mul_left _ hR
  have h4 : a / S1 * S1 * K1 ≤ a * K1 := Nat.mul_le_mul_right K1 (Nat.div_mul_le_self _ _)
  rw [← Nat.mul_assoc, ← Nat.mul_assoc] at h3
  refine Nat.le_of_mul_le_mul_right (c := K1) ?_ hK
  rw [Nat.mul_right_comm]
  omega

/-- The document's division: one bit more. -/
theorem rd_low (A b bit Q r : Nat) (hQ : A / b = Q) (hr : A % b = r) (hlt : 2 * r + bit < b) : (2 * A + bit) / b = 2 * Q ∧ (2 * A + bit) % b = 2 * r + bit := by
  have h := Nat.div_add_mod A b
  rw [hQ, hr] at h
  have h1 : 2 * A + bit = (2 * r + bit) + b * (2 * Q) := by
    rw [Nat.mul_left_comm b 2 Q]; omega
  rw [h1]
  refine ⟨?_, ?_⟩
  · rw [Nat.add_mul_div_left _ _ (by omega), Nat.div_eq_of_lt hlt, Nat.zero_add]
  · rw [Nat.add_mul_mod_self_left, Nat.mod_eq_of_lt hlt]

theorem rd_high (A b bit Q r : Nat) (hb : 0 < b) (hbit : bit ≤ 1) (hQ : A / b = Q) (hr : A % b = r) (hge : b ≤ 2 * r + bit) : (2 * A + bit) / b = 2 * Q + 1 ∧ (2 * A + bit) % b = 2 * r + bit - b := by
  have h := Nat.div_add_mod A b
  have hrl : r < b := by rw [← hr]; exact Nat.mod_lt _ hb
  rw [hQ, hr] at h
  have h1 : 2 * A + bit = (2 * r + bit - b) + b * (2 * Q + 1) := by
    rw [Nat.mul_add, Nat.mul_left_comm b 2 Q]; omega
  rw [h1]
  have hlt : 2 * r + bit - b < b := by omega
  refine ⟨?_, ?_⟩
  · rw [Nat.add_mul_div_left _ _ hb, Nat.div_eq_of_lt hlt, Nat.zero_add]
  · rw [Nat.add_mul_mod_self_left, Nat.mod_eq_of_lt hlt]
end Go.Proofs.YtigdflfhepelaaaGreatDoor
/- join: the number that has three rests, in three limbs. -/
namespace Go.Proofs.YtigdflfhepelaaaGreatDoor
open Go.RowKit
set_option linter.unusedVariables false
set_option maxHeartbeats 400000

set_option maxHeartbeats 1000000 in
theorem mul64_calls (x y : Nat) (hx : x < 18446744073709551616) (hy : y < 18446744073709551616) (w : World) :
    Calls Tryz.prog 116 #[.int .u64 x, .int .u64 y] w fun e w' => e = .returned (.tuple #[.int .u64 ((x * y / 18446744073709551616 : Nat) : Int), .int .u64 ((x * y % 18446744073709551616 : Nat) : Int)]) ∧ w' = w := by
  obtain ⟨bd, bt, bw, hhi⟩ := Lib.mul64_hi x y hx hy
  have ba := Lib.half_mul_le (a := x / 4294967296) (b := y / 4294967296) (by omega) (by omega)
  have bb := Lib.half_mul_le (a := x / 4294967296) (b := y % 4294967296) (by omega) (by omega)
  have bc := Lib.half_mul_le (a := x % 4294967296) (b := y / 4294967296) (by omega) (by omega)
  have ba' : x / 4294967296 * (y / 4294967296) < 18446744073709551616 := by omega
  have bb' : x / 4294967296 * (y % 4294967296) < 18446744073709551616 := by omega
  have bc' : x % 4294967296 * (y / 4294967296) < 18446744073709551616 := by omega
  have bh1 : x / 4294967296 * (y / 4294967296) + (x / 4294967296 * (y % 4294967296) + x % 4294967296 * (y % 4294967296) / 4294967296) / 4294967296 < 18446744073709551616 := by omega
  have bh : x / 4294967296 * (y / 4294967296) + (x / 4294967296 * (y % 4294967296) + x % 4294967296 * (y % 4294967296) / 4294967296) / 4294967296 + ((x / 4294967296 * (y % 4294967296) + x % 4294967296 * (y % 4294967296) / 4294967296) % 4294967296 + x % 4294967296 * (y / 4294967296)) / 4294967296 < 18446744073709551616 := by omega
  go_enter Tryz.func116, Tryz.ntmps116
  go_wp2
  simp only [Mul64.maskN x hx, Mul64.maskN y hy, Mul64.divN, Mul64.mulN, Mul64.addN, Mul64.wrapN _ bd, Mul64.wrapN _ bb', Mul64.wrapN _ bt, Mul64.maskN _ bt, Mul64.wrapN _ bc', Mul64.wrapN _ bw, Mul64.wrapN _ ba', Mul64.wrapN _ bh1, Mul64.wrapN _ bh, Mul64.wrapM (x * y)]
  rw [hhi]
  go_ret2
  exact ⟨rfl, rfl⟩

theorem three (w : World) (B : Nat) (hB : w.heap.size = B) (f g h : Fd) :
    Bx ((((w.alloc (.cells #[.int .u32 (f.p : Int), .int .u32 (f.root : Int), .int .u32 (f.neg : Int), .int .u32 (f.square : Int), .int .u32 (f.ahead : Int)] 137)).alloc (.cells #[.int .u32 (g.p : Int), .int .u32 (g.root : Int), .int .u32 (g.neg : Int), .int .u32 (g.square : Int), .int .u32 (g.ahead : Int)] 137)).alloc (.cells #[.int .u32 (h.p : Int), .int .u32 (h.root : Int), .int .u32 (h.neg : Int), .int .u32 (h.square : Int), .int .u32 (h.ahead : Int)] 137)).drew) B f ∧ Bx ((((w.alloc (.cells #[.int .u32 (f.p : Int), .int .u32 (f.root : Int), .int .u32 (f.neg : Int), .int .u32 (f.square : Int), .int .u32 (f.ahead : Int)] 137)).alloc (.cells #[.int .u32 (g.p : Int), .int .u32 (g.root : Int), .int .u32 (g.neg : Int), .int .u32 (g.square : Int), .int .u32 (g.ahead : Int)] 137)).alloc (.cells #[.int .u32 (h.p : Int), .int .u32 (h.root : Int), .int .u32 (h.neg : Int), .int .u32 (h.square : Int), .int .u32 (h.ahead : Int)] 137)).drew) (B + 1) g ∧
    Bx ((((w.alloc (.cells #[.int .u32 (f.p : Int), .int .u32 (f.root : Int), .int .u32 (f.neg : Int), .int .u32 (f.square : Int), .int .u32 (f.ahead : Int)] 137)).alloc (.cells #[.int .u32 (g.p : Int), .int .u32 (g.root : Int), .int .u32 (g.neg : Int), .int .u32 (g.square : Int), .int .u32 (g.ahead : Int)] 137)).alloc (.cells #[.int .u32 (h.p : Int), .int .u32 (h.root : Int), .int .u32 (h.neg : Int), .int .u32 (h.square : Int), .int .u32 (h.ahead : Int)] 137)).drew) (B + 1 + 1) h ∧ Ext w ((((w.alloc (.cells #[.int .u32 (f.p : Int), .int .u32 (f.root : Int), .int .u32 (f.neg : Int), .int .u32 (f.square : Int), .int .u32 (f.ahead : Int)] 137)).alloc (.cells #[.int .u32 (g.p : Int), .int .u32 (g.root : Int), .int .u32 (g.neg : Int), .int .u32 (g.square : Int), .int .u32 (g.ahead : Int)] 137)).alloc (.cells #[.int .u32 (h.p : Int), .int .u32 (h.root : Int), .int .u32 (h.neg : Int), .int .u32 (h.square : Int), .int .u32 (h.ahead : Int)] 137)).drew) := by
  subst hB
  have h1 := Bx.new w f
  have h2 := Bx.new (w.alloc (.cells #[.int .u32 (f.p : Int), .int .u32 (f.root : Int), .int .u32 (f.neg : Int), .int .u32 (f.square : Int), .int .u32 (f.ahead : Int)] 137)) g
  have h3 := Bx.new ((w.alloc (.cells #[.int .u32 (f.p : Int), .int .u32 (f.root : Int), .int .u32 (f.neg : Int), .int .u32 (f.square : Int), .int .u32 (f.ahead : Int)] 137)).alloc (.cells #[.int .u32 (g.p : Int), .int .u32 (g.root : Int), .int .u32 (g.neg : Int), .int .u32 (g.square : Int), .int .u32 (g.ahead : Int)] 137)) h
  have s1 : (w.alloc (.cells #[.int .u32 (f.p : Int), .int .u32 (f.root : Int), .int .u32 (f.neg : Int), .int .u32 (f.square : Int), .int .u32 (f.ahead : Int)] 137)).heap.size = w.heap.size + 1 := by simp
  have s2 : ((w.alloc (.cells #[.int .u32 (f.p : Int), .int .u32 (f.root : Int), .int .u32 (f.neg : Int), .int .u32 (f.square : Int), .int .u32 (f.ahead : Int)] 137)).alloc (.cells #[.int .u32 (g.p : Int), .int .u32 (g.root : Int), .int .u32 (g.neg : Int), .int .u32 (g.square : Int), .int .u32 (g.ahead : Int)] 137)).heap.size = w.heap.size + 1 + 1 := by simp
  rw [s1] at h2
  rw [s2] at h3
  exact ⟨(h1.ext (((Ext.refl _).alloc _).alloc _)).ext ((Ext.refl _).drew), (h2.ext ((Ext.refl _).alloc _)).ext ((Ext.refl _).drew), h3.ext ((Ext.refl _).drew), (((((Ext.refl w).alloc _).alloc _).alloc _).drew)⟩

set_option maxRecDepth 100000 in
set_option maxHeartbeats 4000000 in
theorem join_calls (w : World) (hg : Gl w) (N x y z : Nat) (hx : N % F0.p = x) (hy : N % F1.p = y) (hz : N % F2.p = z) (hN : N < F0.p * F1.p * F2.p) :
    Calls Tryz.prog 113 #[.int .u32 (x : Nat), .int .u32 (y : Nat), .int .u32 (z : Nat)] w fun e w' => e = .returned (.agg #[.int .u32 (N % 4294967296 : Nat), .int .u32 (N / 4294967296 % 4294967296 : Nat), .int .u32 (N / 18446744073709551616 % 4294967296 : Nat)]) ∧ Ext w w' := by
  obtain ⟨hw0, ⟨a0, a1, a2, a3, a4⟩, ⟨b0, b1, b2, b3, b4⟩, ⟨c0, c1, c2, c3, c4⟩⟩ := hg
  have HJ := Lib.hid (join_math N x y z hx hy hz hN)
  have G0 := F0_fld.good
  have G1 := F1_fld.good
  have G2 := F2_fld.good
  have hx1 : x < F0.p := by rw [← hx]; exact Nat.mod_lt _ (by decide)
  have hy1 : y < F1.p := by rw [← hy]; exact Nat.mod_lt _ (by decide)
  have hz1 : z < F2.p := by rw [← hz]; exact Nat.mod_lt _ (by decide)
  have hN2 : N < 1237940039285380274899124224 := Nat.lt_trans hN (by decide)
  clear hx hy hz hN
  generalize F0 = f at *
  generalize F1 = g at *
  generalize F2 = h at *
  have p0 := G0.p1
  have p1 := G1.p1
  have p2 := G2.p1
  have q1 := G1.p0
  have q2 := G2.p0
  simp only [Nat.zero_add] at a0 a1 a2 a3 a4
  have b1 : w.cell? ⟨0, 6, none⟩ = _ := b1
  have b2 : w.cell? ⟨0, 7, none⟩ = _ := b2
  have b3 : w.cell? ⟨0, 8, none⟩ = _ := b3
  have b4 : w.cell? ⟨0, 9, none⟩ = _ := b4
  have c1 : w.cell? ⟨0, 11, none⟩ = _ := c1
  have c2 : w.cell? ⟨0, 12, none⟩ = _ := c2
  have c3 : w.cell? ⟨0, 13, none⟩ = _ := c3
  have c4 : w.cell? ⟨0, 14, none⟩ = _ := c4
  obtain ⟨n0, hn0⟩ : ∃ n0, N % 4294967296 = n0 := ⟨_, rfl⟩
  obtain ⟨n1, hn1⟩ : ∃ n1, N / 4294967296 % 4294967296 = n1 := ⟨_, rfl⟩
  obtain ⟨n2, hn2⟩ : ∃ n2, N / 18446744073709551616 % 4294967296 = n2 := ⟨_, rfl⟩
  rw [hn0, hn1, hn2]
  have HN0 := Lib.hid hn0
  have HN1 := Lib.hid hn1
  have HN2 := Lib.hid hn2
  clear hn0 hn1 hn2
  go_enter Tryz.func113, Tryz.ntmps113
  go_upto_region 1 with (fail)
  have hE0 : Ext w (w.alloc (.cells #[.int .u32 0, .int .u32 0, .int .u32 0] 135)) := (Ext.refl w).alloc _
  go_cut [7, 8, 9] from 16 to 21 (fun s7 s8 s9 wx => ∃ (B7 B8 B9 : Nat), s7 = .pointer (some ⟨B7, 0, none⟩) ∧ s8 = .pointer (some ⟨B8, 0, none⟩) ∧ s9 = .pointer (some ⟨B9, 0, none⟩) ∧ Bx wx B7 f ∧ Bx wx B8 g ∧ Bx wx B9 h ∧ w.heap.size ≠ B7 ∧ w.heap.size ≠ B8 ∧ w.heap.size ≠ B9 ∧ Ext (w.alloc (.cells #[.int .u32 0, .int .u32 0, .int .u32 0] 135)) wx)
  case first =>
    have hsz : (w.alloc (.cells #[.int .u32 0, .int .u32 0, .int .u32 0] 135)).heap.size = w.heap.size + 1 := by simp
    go_region
    all_goals
      (go_wp2_with (fail)
       go_meet
       first
        | exact ⟨_, _, _, rfl, rfl, rfl, (three _ (w.heap.size + 1) hsz f g h).1, (three _ (w.heap.size + 1) hsz f g h).2.1, (three _ (w.heap.size + 1) hsz f g h).2.2.1, by omega, by omega, by omega, (three _ (w.heap.size + 1) hsz f g h).2.2.2⟩
        | exact ⟨_, _, _, rfl, rfl, rfl, (three _ (w.heap.size + 1) hsz f h g).1, (three _ (w.heap.size + 1) hsz f h g).2.2.1, (three _ (w.heap.size + 1) hsz f h g).2.1, by omega, by omega, by omega, (three _ (w.heap.size + 1) hsz f h g).2.2.2⟩
        | exact ⟨_, _, _, rfl, rfl, rfl, (three _ (w.heap.size + 1) hsz g f h).2.1, (three _ (w.heap.size + 1) hsz g f h).1, (three _ (w.heap.size + 1) hsz g f h).2.2.1, by omega, by omega, by omega, (three _ (w.heap.size + 1) hsz g f h).2.2.2⟩
        | exact ⟨_, _, _, rfl, rfl, rfl, (three _ (w.heap.size + 1) hsz g h f).2.2.1, (three _ (w.heap.size + 1) hsz g h f).1, (three _ (w.heap.size + 1) hsz g h f).2.1, by omega, by omega, by omega, (three _ (w.heap.size + 1) hsz g h f).2.2.2⟩
        | exact ⟨_, _, _, rfl, rfl, rfl, (three _ (w.heap.size + 1) hsz h f g).2.1, (three _ (w.heap.size + 1) hsz h f g).2.2.1, (three _ (w.heap.size + 1) hsz h f g).1, by omega, by omega, by omega, (three _ (w.heap.size + 1) hsz h f g).2.2.2⟩
        | exact ⟨_, _, _, rfl, rfl, rfl, (three _ (w.heap.size + 1) hsz h g f).2.2.1, (three _ (w.heap.size + 1) hsz h g f).2.1, (three _ (w.heap.size + 1) hsz h g f).1, by omega, by omega, by omega, (three _ (w.heap.size + 1) hsz h g f).2.2.2⟩)
  case rest =>
    obtain ⟨B7, B8, B9, rfl, rfl, rfl, hX7, hX8, hX9, hn7, hn8, hn9, hE⟩ := hcut
    have hE0' := hE0
    have r0 : (w.alloc (.cells #[.int .u32 0, .int .u32 0, .int .u32 0] 135)).cell? ⟨w.heap.size, 0, none⟩ = some (.int .u32 0) := by go_simp
    have r1 : (w.alloc (.cells #[.int .u32 0, .int .u32 0, .int .u32 0] 135)).cell? ⟨w.heap.size, 1, none⟩ = some (.int .u32 0) := by go_simp
    have r2 : (w.alloc (.cells #[.int .u32 0, .int .u32 0, .int .u32 0] 135)).cell? ⟨w.heap.size, 2, none⟩ = some (.int .u32 0) := by go_simp
    have f0 : (w.alloc (.cells #[.int .u32 0, .int .u32 0, .int .u32 0] 135)).frozen? ⟨w.heap.size, 0, none⟩ = false := by go_simp
    have f1 : (w.alloc (.cells #[.int .u32 0, .int .u32 0, .int .u32 0] 135)).frozen? ⟨w.heap.size, 1, none⟩ = false := by go_simp
    have f2 : (w.alloc (.cells #[.int .u32 0, .int .u32 0, .int .u32 0] 135)).frozen? ⟨w.heap.size, 2, none⟩ = false := by go_simp
    generalize w.alloc (.cells #[.int .u32 0, .int .u32 0, .int .u32 0] 135) = w1 at *
    clear a0 a1 a2 a3 a4 b0 b1 b2 b3 b4 c0 c1 c2 c3 c4 hE0'
    -- the second digit
    obtain ⟨xm, hxm⟩ : ∃ xm, x % g.p = xm := ⟨_, rfl⟩
    have hxmp : xm < g.p := by rw [← hxm]; exact Nat.mod_lt _ (by omega)
    have hmi : (x : Int) % (g.p : Int) = (xm : Int) := by rw [← hxm, Int.natCast_emod]
    have hmt : ((x : Int)).tmod (g.p : Int) = (xm : Int) := by rw [Int.tmod_eq_emod_of_nonneg (by omega)]; exact hmi
    have hgz : ¬ ((g.p : Int) = 0) := by omega
    have hgz2 : ¬ (g.p = 0) := by omega
    have hgz3 : ((g.p : Int) == 0) = false := by rw [beq_eq_false_iff_ne]; omega
    have hxw : IntKind.u32.wrap (xm : Int) = (xm : Int) := by rw [IntKind.wrap_u32]; omega
    obtain ⟨s1, hs1⟩ : ∃ s1, (y + g.p - xm) % g.p = s1 := ⟨_, rfl⟩
    have hs1p : s1 < g.p := by rw [← hs1]; exact Nat.mod_lt _ (by omega)
    have hSub := Lib.hid (fun W => sub_calls W g G1 y xm hy1 hxmp)
    rw [hs1] at hSub
    have hga := G1.ab
    have hMul := Lib.hid (fun W => mul_calls W g G1 s1 g.ahead (by omega) (by omega) (lt_prod (by omega) hga))
    obtain ⟨v, hv⟩ : ∃ v, mm g s1 g.ahead = v := ⟨_, rfl⟩
    have hvp : v < g.p := by rw [← hv]; exact mm_lt g G1 _ _
    rw [hv] at hMul
    have HV : Hid (v = mm g ((y + g.p - x % g.p) % g.p) g.ahead) := by rw [Hid, hxm, hs1, hv]
    clear hxm hs1 hv
    have hS2 : (B8 < wc.drew.heap.size ∧ wc.drew.cell? ⟨B8, 0, none⟩ = some (.int .u32 (g.p : Int)) ∧ wc.drew.cell? ⟨B8, 1, none⟩ = some (.int .u32 (g.root : Int)) ∧ wc.drew.cell? ⟨B8, 2, none⟩ = some (.int .u32 (g.neg : Int)) ∧ wc.drew.cell? ⟨B8, 3, none⟩ = some (.int .u32 (g.square : Int)) ∧ wc.drew.cell? ⟨B8, 4, none⟩ = some (.int .u32 (g.ahead : Int))) := hX8
    go_wp2_with (fail)
    go_region_held3 (fun X => (B8 < X.heap.size ∧ X.cell? ⟨B8, 0, none⟩ = some (.int .u32 (g.p : Int)) ∧ X.cell? ⟨B8, 1, none⟩ = some (.int .u32 (g.root : Int)) ∧ X.cell? ⟨B8, 2, none⟩ = some (.int .u32 (g.neg : Int)) ∧ X.cell? ⟨B8, 3, none⟩ = some (.int .u32 (g.square : Int)) ∧ X.cell? ⟨B8, 4, none⟩ = some (.int .u32 (g.ahead : Int))))
      (first
        | exact hS2
        | assumption
        | exact keep5 (by assumption) (by assumption))
      (first
        | (go_at_call 139; ((with_reducible refine (hSub.out _).mono ?_); rintro e w3 ⟨rfl, hB3⟩))
        | (go_at_call 134; ((with_reducible refine (hMul.out _).mono ?_); rintro e w4 ⟨rfl, hB4⟩)))
    have hE4 : Ext wc w4 := (drawn hB3).below hB4
    clear hB3 hB4 hS2 hSub hMul hmi hmt hgz hgz2 hgz3 hxw
    replace hX7 := hX7.ext hE4
    replace hX8 := hX8.ext hE4
    replace hX9 := hX9.ext hE4
    replace hE := hE.below hE4
    -- low
    obtain ⟨fv, hfv⟩ : ∃ fv, f.p * v = fv := ⟨_, rfl⟩
    have hfvi : (f.p : Int) * (v : Int) = (fv : Int) := by rw [← hfv, Int.natCast_mul]
    have hfvb : fv < 1152921504606846976 := by rw [← hfv]; exact Nat.lt_of_le_of_lt (Nat.mul_le_mul (Nat.le_of_lt p0) (Nat.le_of_lt hvp)) (by omega)
    have hfvw : IntKind.u64.wrap (fv : Int) = (fv : Int) := by rw [IntKind.wrap_u64]; omega
    obtain ⟨low, hlow⟩ : ∃ low, fv + x = low := ⟨_, rfl⟩
    have hlowi : (fv : Int) + (x : Int) = (low : Int) := by omega
    have hloww : IntKind.u64.wrap (low : Int) = (low : Int) := by rw [IntKind.wrap_u64]; omega
    have HLW : Hid (low = f.p * v + x) := by rw [Hid, hfv, hlow]
    have hlowb : low < 2305843009213693952 := by omega
    obtain ⟨d0, d1, d2, d3, d4, d5⟩ := id hX7
    clear hfv hlow
    have hpw : IntKind.u64.wrap (f.p : Int) = (f.p : Int) := by rw [IntKind.wrap_u64]; omega
    have hvw : IntKind.u64.wrap (v : Int) = (v : Int) := by rw [IntKind.wrap_u64]; omega
    have hxw : IntKind.u64.wrap (x : Int) = (x : Int) := by rw [IntKind.wrap_u64]; omega
    go_upto_region 4 with (fail)
    -- the third digit
    clear hfvi hlowi hpw hvw hxw d0 d1 d2 d3 d4 d5
    obtain ⟨lm, hlm⟩ : ∃ lm, low % h.p = lm := ⟨_, rfl⟩
    have hlmp : lm < h.p := by rw [← hlm]; exact Nat.mod_lt _ (by omega)
    have hmi : (low : Int) % (h.p : Int) = (lm : Int) := by rw [← hlm, Int.natCast_emod]
    have hmt : ((low : Int)).tmod (h.p : Int) = (lm : Int) := by rw [Int.tmod_eq_emod_of_nonneg (by omega)]; exact hmi
    have hgz : ¬ ((h.p : Int) = 0) := by omega
    have hgz2 : ¬ (h.p = 0) := by omega
    have hgz3 : ((h.p : Int) == 0) = false := by rw [beq_eq_false_iff_ne]; omega
    have hxw : IntKind.u32.wrap (lm : Int) = (lm : Int) := by rw [IntKind.wrap_u32]; omega
    have hxw2 : IntKind.u64.wrap (lm : Int) = (lm : Int) := by rw [IntKind.wrap_u64]; omega
    have hhw : IntKind.u64.wrap (h.p : Int) = (h.p : Int) := by rw [IntKind.wrap_u64]; omega
    obtain ⟨s2, hs2⟩ : ∃ s2, (z + h.p - lm) % h.p = s2 := ⟨_, rfl⟩
    have hs2p : s2 < h.p := by rw [← hs2]; exact Nat.mod_lt _ (by omega)
    have hSub := Lib.hid (fun W => sub_calls W h G2 z lm hz1 hlmp)
    rw [hs2] at hSub
    have hga2 := G2.ab
    have hMul := Lib.hid (fun W => mul_calls W h G2 s2 h.ahead (by omega) (by omega) (lt_prod (by omega) hga2))
    obtain ⟨wv, hwv⟩ : ∃ wv, mm h s2 h.ahead = wv := ⟨_, rfl⟩
    have hwvp : wv < h.p := by rw [← hwv]; exact mm_lt h G2 _ _
    rw [hwv] at hMul
    have HW : Hid (wv = mm h ((z + h.p - low % h.p) % h.p) h.ahead) := by rw [Hid, hlm, hs2, hwv]
    clear hlm hs2 hwv
    have hS4 : (B9 < w4.drew.heap.size ∧ w4.drew.cell? ⟨B9, 0, none⟩ = some (.int .u32 (h.p : Int)) ∧ w4.drew.cell? ⟨B9, 1, none⟩ = some (.int .u32 (h.root : Int)) ∧ w4.drew.cell? ⟨B9, 2, none⟩ = some (.int .u32 (h.neg : Int)) ∧ w4.drew.cell? ⟨B9, 3, none⟩ = some (.int .u32 (h.square : Int)) ∧ w4.drew.cell? ⟨B9, 4, none⟩ = some (.int .u32 (h.ahead : Int))) := hX9
    go_region_held3 (fun X => (B9 < X.heap.size ∧ X.cell? ⟨B9, 0, none⟩ = some (.int .u32 (h.p : Int)) ∧ X.cell? ⟨B9, 1, none⟩ = some (.int .u32 (h.root : Int)) ∧ X.cell? ⟨B9, 2, none⟩ = some (.int .u32 (h.neg : Int)) ∧ X.cell? ⟨B9, 3, none⟩ = some (.int .u32 (h.square : Int)) ∧ X.cell? ⟨B9, 4, none⟩ = some (.int .u32 (h.ahead : Int))))
      (first
        | exact hS4
        | assumption
        | exact keep5 (by assumption) (by assumption))
      (first
        | (go_at_call 139; ((with_reducible refine (hSub.out _).mono ?_); rintro e w5 ⟨rfl, hB5⟩))
        | (go_at_call 134; ((with_reducible refine (hMul.out _).mono ?_); rintro e w6 ⟨rfl, hB6⟩)))
    have hE6 : Ext w4 w6 := (drawn hB5).below hB6
    clear hB5 hB6 hS4 hSub hMul hmi hmt hgz hgz2 hgz3 hxw hxw2 hX9
    replace hX7 := hX7.ext hE6
    replace hX8 := hX8.ext hE6
    replace hE := hE.below hE6
    -- all together
    obtain ⟨HJ1, _⟩ := HJ.out v low wv HV.out HLW.out HW.out
    obtain ⟨M, hM⟩ : ∃ M, f.p * g.p = M := ⟨_, rfl⟩
    have hMb : M < 1152921504606846977 := by rw [← hM]; exact Nat.lt_of_le_of_lt (Nat.mul_le_mul (Nat.le_of_lt p0) (Nat.le_of_lt p1)) (by omega)
    have hMi : (f.p : Int) * (g.p : Int) = (M : Int) := by rw [← hM, Int.natCast_mul]
    have hMw : IntKind.u64.wrap (M : Int) = (M : Int) := by rw [IntKind.wrap_u64]; omega
    have hpw : IntKind.u64.wrap (f.p : Int) = (f.p : Int) := by rw [IntKind.wrap_u64]; omega
    have hgw : IntKind.u64.wrap (g.p : Int) = (g.p : Int) := by rw [IntKind.wrap_u64]; omega
    have hww : IntKind.u64.wrap (wv : Int) = (wv : Int) := by rw [IntKind.wrap_u64]; omega
    have hM64 := Lib.hid (fun W => mul64_calls M wv (by omega) (by omega) W)
    rw [hM] at HJ1
    obtain ⟨T, hT⟩ : ∃ T, M * wv = T := ⟨_, rfl⟩
    rw [hT] at HJ1 hM64
    obtain ⟨hi, hhi⟩ : ∃ hi, T / 18446744073709551616 = hi := ⟨_, rfl⟩
    obtain ⟨lo, hlo⟩ : ∃ lo, T % 18446744073709551616 = lo := ⟨_, rfl⟩
    rw [hhi, hlo] at hM64
    have hadd := fun w => run_add lo low w
    obtain ⟨l1, hl1⟩ : ∃ l1, (lo + low) % 18446744073709551616 = l1 := ⟨_, rfl⟩
    obtain ⟨k1, hk1⟩ : ∃ k1, (lo + low) / 18446744073709551616 = k1 := ⟨_, rfl⟩
    rw [hl1, hk1] at hadd
    have hn0 := HN0.out
    have hn1 := HN1.out
    have hn2 := HN2.out
    have e0 : l1 % 4294967296 = n0 := by omega
    have e1 : l1 / 4294967296 = n1 := by omega
    have e2 : hi + k1 = n2 := by omega
    have bl : l1 < 18446744073709551616 := by omega
    have d0 : n0 < 4294967296 := by omega
    have d1 : n1 < 4294967296 := by omega
    have d2 : n2 < 4294967296 := by omega
    have bhi : hi ≤ n2 := by omega
    have bk1 : k1 ≤ n2 := by omega
    have i0 : (l1 : Int) % 4294967296 = (n0 : Int) := by omega
    have i0w : IntKind.u32.wrap (l1 : Int) = (n0 : Int) := by rw [IntKind.wrap_u32]; omega
    have i1 : (l1 : Int) / 4294967296 = (n1 : Int) := by omega
    have i1w : IntKind.u32.wrap (n1 : Int) = (n1 : Int) := by rw [IntKind.wrap_u32]; omega
    have i1m : (n1 : Int) % 4294967296 = (n1 : Int) := by omega
    have i2 : (hi : Int) + (k1 : Int) = (n2 : Int) := by omega
    have i2w : IntKind.u32.wrap (n2 : Int) = (n2 : Int) := by rw [IntKind.wrap_u32]; omega
    have i2x : IntKind.u64.wrap (n2 : Int) = (n2 : Int) := by rw [IntKind.wrap_u64]; omega
    have i2m : (n2 : Int) % 4294967296 = (n2 : Int) := by omega
    clear hM hT hhi hlo hl1 hk1 hn0 hn1 hn2 e0 e1 e2 HJ1
    obtain ⟨d0, d1, d2, d3, d4, d5⟩ := id hX7
    obtain ⟨e0, e1, e2, e3, e4, e5⟩ := id hX8
    go_wp2_with (fail)
    refine (hM64.out _).mono ?_
    rintro e w7 ⟨rfl, rfl⟩
    replace f0 := kept_free hE r0 f0
    replace f1 := kept_free hE r1 f1
    replace f2 := kept_free hE r2 f2
    replace r0 := kept_cell hE r0
    replace r1 := kept_cell hE r1
    replace r2 := kept_cell hE r2
    have hEw : Ext w w7 := hE0.below hE
    clear d0 d1 d2 d3 d4 d5 e0 e1 e2 e3 e4 e5 hX7 hX8 hE hM64
    go_wp2
    refine bodyPost_ret (v := .agg #[.int .u32 (n0 : Nat), .int .u32 (n1 : Nat), .int .u32 (n2 : Nat)]) ?_ rfl ⟨rfl, ?_⟩
    · simp [results, Tryz.results113, go_sem, *]
    · exact ((hEw.setCell (p := ⟨w.heap.size, 0, none⟩) (Nat.le_refl _) _).setCell (p := ⟨w.heap.size, 1, none⟩) (Nat.le_refl _) _).setCell (p := ⟨w.heap.size, 2, none⟩) (Nat.le_refl _) _
end Go.Proofs.YtigdflfhepelaaaGreatDoor
/- Sums of products of two rows that are both long. -/
namespace Go.Proofs.YtigdflfhepelaaaGreatDoor
open Go.RowKit
set_option linter.unusedVariables false
set_option maxHeartbeats 400000

theorem keepG {x y : World} {f g h : Fd} (hS : (0 < x.heap.size ∧ x.cell? ⟨0, 0, none⟩ = some (.int .u32 (f.p : Int)) ∧ x.cell? ⟨0, 1, none⟩ = some (.int .u32 (f.root : Int)) ∧ x.cell? ⟨0, 2, none⟩ = some (.int .u32 (f.neg : Int)) ∧ x.cell? ⟨0, 3, none⟩ = some (.int .u32 (f.square : Int)) ∧ x.cell? ⟨0, 4, none⟩ = some (.int .u32 (f.ahead : Int)) ∧ x.cell? ⟨0, 5, none⟩ = some (.int .u32 (g.p : Int)) ∧ x.cell? ⟨0, 6, none⟩ = some (.int .u32 (g.root : Int)) ∧ x.cell? ⟨0, 7, none⟩ = some (.int .u32 (g.neg : Int)) ∧ x.cell? ⟨0, 8, none⟩ = some (.int .u32 (g.square : Int)) ∧ x.cell? ⟨0, 9, none⟩ = some (.int .u32 (g.ahead : Int)) ∧ x.cell? ⟨0, 10, none⟩ = some (.int .u32 (h.p : Int)) ∧ x.cell? ⟨0, 11, none⟩ = some (.int .u32 (h.root : Int)) ∧ x.cell? ⟨0, 12, none⟩ = some (.int .u32 (h.neg : Int)) ∧ x.cell? ⟨0, 13, none⟩ = some (.int .u32 (h.square : Int)) ∧ x.cell? ⟨0, 14, none⟩ = some (.int .u32 (h.ahead : Int)))) (hB : Ext x y) : (0 < y.heap.size ∧ y.cell? ⟨0, 0, none⟩ = some (.int .u32 (f.p : Int)) ∧ y.cell? ⟨0, 1, none⟩ = some (.int .u32 (f.root : Int)) ∧ y.cell? ⟨0, 2, none⟩ = some (.int .u32 (f.neg : Int)) ∧ y.cell? ⟨0, 3, none⟩ = some (.int .u32 (f.square : Int)) ∧ y.cell? ⟨0, 4, none⟩ = some (.int .u32 (f.ahead : Int)) ∧ y.cell? ⟨0, 5, none⟩ = some (.int .u32 (g.p : Int)) ∧ y.cell? ⟨0, 6, none⟩ = some (.int .u32 (g.root : Int)) ∧ y.cell? ⟨0, 7, none⟩ = some (.int .u32 (g.neg : Int)) ∧ y.cell? ⟨0, 8, none⟩ = some (.int .u32 (g.square : Int)) ∧ y.cell? ⟨0, 9, none⟩ = some (.int .u32 (g.ahead : Int)) ∧ y.cell? ⟨0, 10, none⟩ = some (.int .u32 (h.p : Int)) ∧ y.cell? ⟨0, 11, none⟩ = some (.int .u32 (h.root : Int)) ∧ y.cell? ⟨0, 12, none⟩ = some (.int .u32 (h.neg : Int)) ∧ y.cell? ⟨0, 13, none⟩ = some (.int .u32 (h.square : Int)) ∧ y.cell? ⟨0, 14, none⟩ = some (.int .u32 (h.ahead : Int))) := by
  obtain ⟨h0, a0, a1, a2, a3, a4, b0, b1, b2, b3, b4, c0, c1, c2, c3, c4⟩ := hS
  have hs := hB.size
  have hc := fun o => hB.cell (p := ⟨0, o, none⟩) h0
  exact ⟨by omega, (hc _).trans a0, (hc _).trans a1, (hc _).trans a2, (hc _).trans a3, (hc _).trans a4, (hc _).trans b0, (hc _).trans b1, (hc _).trans b2, (hc _).trans b3, (hc _).trans b4, (hc _).trans c0, (hc _).trans c1, (hc _).trans c2, (hc _).trans c3, (hc _).trans c4⟩

theorem keep3 {x y : World} {p q r : Addr} {u v s : Value} (h : x.cell? p = some u ∧ x.cell? q = some v ∧ x.cell? r = some s) (hB : Ext x y) : y.cell? p = some u ∧ y.cell? q = some v ∧ y.cell? r = some s :=
  ⟨kept_cell hB h.1, kept_cell hB h.2.1, kept_cell hB h.2.2⟩
theorem keep3S {x : World} {p q r : Addr} {u v s : Value} {g o1 o2 o3 : Nat} {v1 v2 v3 : Value} (h : x.cell? p = some u ∧ x.cell? q = some v ∧ x.cell? r = some s) (hp : p.block ≠ g) (hq : q.block ≠ g) (hr : r.block ≠ g) :
    (((x.setCell ⟨g, o1, none⟩ v1).setCell ⟨g, o2, none⟩ v2).setCell ⟨g, o3, none⟩ v3).cell? p = some u ∧ (((x.setCell ⟨g, o1, none⟩ v1).setCell ⟨g, o2, none⟩ v2).setCell ⟨g, o3, none⟩ v3).cell? q = some v ∧ (((x.setCell ⟨g, o1, none⟩ v1).setCell ⟨g, o2, none⟩ v2).setCell ⟨g, o3, none⟩ v3).cell? r = some s := by
  have k := (((But.refl g x).setCell o1 v1).setCell o2 v2).setCell o3 v3
  exact ⟨(k.cell (World.block_lt_of_cell? x _ h.1) hp).trans h.1, (k.cell (World.block_lt_of_cell? x _ h.2.1) hq).trans h.2.1, (k.cell (World.block_lt_of_cell? x _ h.2.2) hr).trans h.2.2⟩
/-- What the rests tell. -/
theorem rest_at {f : Fd} (N r : Nat) (hr : r < f.p) (h : Eqm (f.p : Int) (r : Int) (N : Int)) : N % f.p = r := by
  have := h.nat_eq
  rw [Nat.mod_eq_of_lt hr] at this
  exact this.symm

set_option maxRecDepth 100000 in
set_option maxHeartbeats 8000000 in
theorem conv_big (w : World) (hg : Gl w) (v u : Value) (a b : List Nat) (hua : U w v a) (hub : U w u b) (hal : a.length ≤ 30000) (hbl : b.length ≤ 30000) (hs : 24 < min a.length b.length) :
    Calls Tryz.prog 96 #[v, u] w fun e w' => (∃ z, e = .returned z ∧ U3 w' z (cvs a b)) ∧ Ext w w' := by
  have ha0 : 0 < a.length := by omega
  have hb0 : 0 < b.length := by omega
  rw [cvs_pos a b ha0 hb0]
  obtain ⟨hw0, ⟨a0, a1, a2, a3, a4⟩, ⟨b0, b1, b2, b3, b4⟩, ⟨c0, c1, c2, c3, c4⟩⟩ := id hg
  obtain ⟨A, ca, rfl, _, hxa, _⟩ := id hua
  obtain ⟨A2, cb, rfl, _, hxb, _⟩ := id hub
  obtain ⟨n, hn⟩ : ∃ n, a.length + b.length - 1 = n := ⟨_, rfl⟩
  obtain ⟨k, hk⟩ : ∃ k, blen (n - 1) = k := ⟨_, rfl⟩
  have hk16 : k ≤ 16 := by rw [← hk]; exact blen_le_of_lt (by omega)
  obtain ⟨m, hm⟩ : ∃ m, 2 ^ k = m := ⟨_, rfl⟩
  have hnm : n ≤ m := by have := lt_pow_blen (n - 1); rw [hk, hm] at this; omega
  have hm1 : m ≤ 65536 := by rw [← hm]; exact Nat.pow_le_pow_right (by decide) hk16
  have hN : ∀ j, cv a b a.length j < F0.p * F1.p * F2.p := fun j => Nat.lt_of_le_of_lt (Nat.le_trans (cv_le a b hxa hxb a.length j) (Nat.mul_le_mul_right _ hal)) (by decide)
  have hR0 := Lib.hid (fun W h1 h2 => rests_calls W F0 F0_fld k m hm hk16 (.slice A a.length ca) (.slice A2 b.length cb) a b h1 h2 (by omega) (by omega) (by omega))
  have hR1 := Lib.hid (fun W h1 h2 => rests_calls W F1 F1_fld k m hm hk16 (.slice A a.length ca) (.slice A2 b.length cb) a b h1 h2 (by omega) (by omega) (by omega))
  have hR2 := Lib.hid (fun W h1 h2 => rests_calls W F2 F2_fld k m hm hk16 (.slice A a.length ca) (.slice A2 b.length cb) a b h1 h2 (by omega) (by omega) (by omega))
  have hJ := Lib.hid (fun W hg j x y z hx hy hz => join_calls W hg (cv a b a.length j) x y z hx hy hz (hN j))
  have HG := Lib.hid hg
  have hcl : (conv a b).length = n := by rw [conv_len, hn]
  have hca : Hid (∀ j, j < n → lb (conv a b) j = cv a b a.length j) := fun j hj => lb_conv a b j (by omega)
  have HCL := Lib.hid hcl
  have HU0 := Lib.hid hua
  have HU1 := Lib.hid hub
  have Fp0 : 1 < F0.p := by decide
  have Fp1 : 1 < F1.p := by decide
  have Fp2 : 1 < F2.p := by decide
  have HLn := Lib.hid (fun W => len_calls W (n - 1) (by omega))
  rw [hk] at HLn
  simp only [Nat.zero_add] at a0 a1 a2 a3 a4
  have hS0 : (0 < w.heap.size ∧ w.cell? ⟨0, 0, none⟩ = some (.int .u32 (F0.p : Int)) ∧ w.cell? ⟨0, 1, none⟩ = some (.int .u32 (F0.root : Int)) ∧ w.cell? ⟨0, 2, none⟩ = some (.int .u32 (F0.neg : Int)) ∧ w.cell? ⟨0, 3, none⟩ = some (.int .u32 (F0.square : Int)) ∧ w.cell? ⟨0, 4, none⟩ = some (.int .u32 (F0.ahead : Int)) ∧ w.cell? ⟨0, 5, none⟩ = some (.int .u32 (F1.p : Int)) ∧ w.cell? ⟨0, 6, none⟩ = some (.int .u32 (F1.root : Int)) ∧ w.cell? ⟨0, 7, none⟩ = some (.int .u32 (F1.neg : Int)) ∧ w.cell? ⟨0, 8, none⟩ = some (.int .u32 (F1.square : Int)) ∧ w.cell? ⟨0, 9, none⟩ = some (.int .u32 (F1.ahead : Int)) ∧ w.cell? ⟨0, 10, none⟩ = some (.int .u32 (F2.p : Int)) ∧ w.cell? ⟨0, 11, none⟩ = some (.int .u32 (F2.root : Int)) ∧ w.cell? ⟨0, 12, none⟩ = some (.int .u32 (F2.neg : Int)) ∧ w.cell? ⟨0, 13, none⟩ = some (.int .u32 (F2.square : Int)) ∧ w.cell? ⟨0, 14, none⟩ = some (.int .u32 (F2.ahead : Int))) := ⟨hw0, a0, a1, a2, a3, a4, b0, b1, b2, b3, b4, c0, c1, c2, c3, c4⟩
  clear a0 a1 a2 a3 a4 b0 b1 b2 b3 b4 c0 c1 c2 c3 c4 hcl hxa hxb hN hg hk hm
  generalize F0 = f at *
  generalize F1 = g at *
  generalize F2 = fc at *
  obtain ⟨na, hna⟩ : ∃ na, a.length = na := ⟨_, rfl⟩
  obtain ⟨nb, hnb⟩ : ∃ nb, b.length = nb := ⟨_, rfl⟩
  rw [hna] at hn hal hs ha0 HU0 hR0 hR1 hR2 hJ hca hua ⊢
  rw [hnb] at hn hbl hs hb0 HU1 hR0 hR1 hR2 hub ⊢
  clear hna hnb
  have hz : (((na : Nat) : Int) == 0) = false := by rw [beq_eq_false_iff_ne]; omega
  have hz2 : (((nb : Nat) : Int) == 0) = false := by rw [beq_eq_false_iff_ne]; omega
  obtain ⟨q, hq⟩ : ∃ q, min na nb = q := ⟨_, rfl⟩
  have hmi : min ((na : Nat) : Int) ((nb : Nat) : Int) = (q : Int) := by omega
  have hmd : decide ((q : Int) ≤ 24) = false := by rw [decide_eq_false_iff_not]; omega
  have hmd1 : decide ((na : Int) ≤ 24) = false := by rw [decide_eq_false_iff_not]; omega
  have hmd2 : decide ((nb : Int) ≤ 24) = false := by rw [decide_eq_false_iff_not]; omega
  have hif : (if nb < na then (nb : Int) else (na : Int)) = (q : Int) := by split <;> omega
  have hnn : (na : Int) + (nb : Int) - 1 = (n : Int) := by omega
  have hn1 : (n : Int) - 1 = ((n - 1 : Nat) : Int) := by omega
  have hnw : IntKind.u64.wrap ((n - 1 : Nat) : Int) = ((n - 1 : Nat) : Int) := by rw [IntKind.wrap_u64]; omega
  have hn30 : n ≤ 60000 := by omega
  have hn2 : 0 < n := by omega
  obtain ⟨n1, hn1n⟩ : ∃ n1, n - 1 = n1 := ⟨_, rfl⟩
  rw [hn1n] at hn1 hnw HLn
  clear hq hs hn hn1n
  go_enter Tryz.func96, Tryz.ntmps96
  go_wp2_with (fail)
  refine (HLn.out _).mono ?_
  rintro e w1 ⟨rfl, rfl⟩
  go_wp2_with (fail)
  have hS1 : (0 < w.drew.heap.size ∧ w.drew.cell? ⟨0, 0, none⟩ = some (.int .u32 (f.p : Int)) ∧ w.drew.cell? ⟨0, 1, none⟩ = some (.int .u32 (f.root : Int)) ∧ w.drew.cell? ⟨0, 2, none⟩ = some (.int .u32 (f.neg : Int)) ∧ w.drew.cell? ⟨0, 3, none⟩ = some (.int .u32 (f.square : Int)) ∧ w.drew.cell? ⟨0, 4, none⟩ = some (.int .u32 (f.ahead : Int)) ∧ w.drew.cell? ⟨0, 5, none⟩ = some (.int .u32 (g.p : Int)) ∧ w.drew.cell? ⟨0, 6, none⟩ = some (.int .u32 (g.root : Int)) ∧ w.drew.cell? ⟨0, 7, none⟩ = some (.int .u32 (g.neg : Int)) ∧ w.drew.cell? ⟨0, 8, none⟩ = some (.int .u32 (g.square : Int)) ∧ w.drew.cell? ⟨0, 9, none⟩ = some (.int .u32 (g.ahead : Int)) ∧ w.drew.cell? ⟨0, 10, none⟩ = some (.int .u32 (fc.p : Int)) ∧ w.drew.cell? ⟨0, 11, none⟩ = some (.int .u32 (fc.root : Int)) ∧ w.drew.cell? ⟨0, 12, none⟩ = some (.int .u32 (fc.neg : Int)) ∧ w.drew.cell? ⟨0, 13, none⟩ = some (.int .u32 (fc.square : Int)) ∧ w.drew.cell? ⟨0, 14, none⟩ = some (.int .u32 (fc.ahead : Int))) := hS0
  have hA0 : U w.drew (.slice A na ca) a := hua
  have hB0 : U w.drew (.slice A2 nb cb) b := hub
  go_region_held3 (fun X => (0 < X.heap.size ∧ X.cell? ⟨0, 0, none⟩ = some (.int .u32 (f.p : Int)) ∧ X.cell? ⟨0, 1, none⟩ = some (.int .u32 (f.root : Int)) ∧ X.cell? ⟨0, 2, none⟩ = some (.int .u32 (f.neg : Int)) ∧ X.cell? ⟨0, 3, none⟩ = some (.int .u32 (f.square : Int)) ∧ X.cell? ⟨0, 4, none⟩ = some (.int .u32 (f.ahead : Int)) ∧ X.cell? ⟨0, 5, none⟩ = some (.int .u32 (g.p : Int)) ∧ X.cell? ⟨0, 6, none⟩ = some (.int .u32 (g.root : Int)) ∧ X.cell? ⟨0, 7, none⟩ = some (.int .u32 (g.neg : Int)) ∧ X.cell? ⟨0, 8, none⟩ = some (.int .u32 (g.square : Int)) ∧ X.cell? ⟨0, 9, none⟩ = some (.int .u32 (g.ahead : Int)) ∧ X.cell? ⟨0, 10, none⟩ = some (.int .u32 (fc.p : Int)) ∧ X.cell? ⟨0, 11, none⟩ = some (.int .u32 (fc.root : Int)) ∧ X.cell? ⟨0, 12, none⟩ = some (.int .u32 (fc.neg : Int)) ∧ X.cell? ⟨0, 13, none⟩ = some (.int .u32 (fc.square : Int)) ∧ X.cell? ⟨0, 14, none⟩ = some (.int .u32 (fc.ahead : Int))))
    (first
      | exact hS1
      | assumption
      | exact keepG (by assumption) (by assumption))
    (first
      | (go_at_call 112; ((with_reducible refine (hR0.out _ hA0 hB0).mono ?_); rintro e w3 ⟨⟨u3, r3, rfl, hU3, hl3, hlt3, hm3⟩, hB3⟩; have hA3 := hA0.below hB3; have hB3' := hB0.below hB3))
      | (go_at_call 112; ((with_reducible refine (hR1.out _ hA3 hB3').mono ?_); rintro e w4 ⟨⟨u4, r4, rfl, hU4, hl4, hlt4, hm4⟩, hB4⟩; have hA4 := hA3.below hB4; have hB4' := hB3'.below hB4))
      | (go_at_call 112; ((with_reducible refine (hR2.out _ hA4 hB4').mono ?_); rintro e w5 ⟨⟨u5, r5, rfl, hU5, hl5, hlt5, hm5⟩, hB5⟩)))
  have hE5 : Ext w w5 := ((drawn hB3).below hB4).below hB5
  replace hU3 := (hU3.below hB4).below hB5
  replace hU4 := hU4.below hB5
  obtain ⟨ad3, c3, hv3, _, hb3, hc3⟩ := hU3.opened hl3 (by omega)
  obtain ⟨ad4, c4, hv4, _, hb4, hc4⟩ := hU4.opened hl4 (by omega)
  obtain ⟨ad5, c5, hv5, _, hb5, hc5⟩ := hU5.opened hl5 (by omega)
  subst hv3 hv4 hv5
  have H3 := Lib.hid (fun j (hj : j < m) => rest_at (f := f) (cv a b na j) (lb r3 j) (lb_lt_of (by omega) hlt3 _) (hm3 j hj))
  have H4 := Lib.hid (fun j (hj : j < m) => rest_at (f := g) (cv a b na j) (lb r4 j) (lb_lt_of (by omega) hlt4 _) (hm4 j hj))
  have H5 := Lib.hid (fun j (hj : j < m) => rest_at (f := fc) (cv a b na j) (lb r5 j) (lb_lt_of (by omega) hlt5 _) (hm5 j hj))
  obtain ⟨i0, hi, hz0, hz1, hz2⟩ := info_parts info3
  clear hS0 hS1 hA0 hB0 hA3 hB3' hA4 hB4' hB3 hB4 hB5 hU3 hU4 hU5 hm3 hm4 hm5 hlt3 hlt4 hlt5 hua hub hR0 hR1 hR2
  go_wp2_with (at_make; refine wpList_make_full _ rfl _ _ 124 rfl (w5.heap.size) 135 i0 (.agg #[.int .u32 0, .int .u32 0, .int .u32 0]) 3 Tryz.underlying124 hi hz0 hz1 _ _ _ _ n rfl rfl (by omega) (by omega) (by rw [hz2]; omega) (by unfold maxLen; omega) (Nat.le_refl _) ?_; intro w6 hown hgrow)
  have ho0 : Own3 w6 w5.heap.size (.slice (some ⟨w5.heap.size, 0, none⟩) n n) (List.replicate n 0) := by
    have := hown
    rw [madeCells3] at this
    unfold Own3
    rw [List.length_replicate]
    exact this
  have hB6 : Ext w5 w6 := (Ext.refl w5).grown hgrow (Nat.le_refl _) (fun _ h => by cases h)
  clear hown hgrow hi hz0 hz1 hz2 i0
  obtain ⟨B, hB⟩ : ∃ B, w5.heap.size = B := ⟨_, rfl⟩
  have HBB := Lib.hid hB
  rw [hB] at hb3 hb4 hb5 ho0 ⊢
  clear hB
  go_loopw [61] (fun t wr => ∃ (j : Nat) (o : List Nat), j ≤ n ∧ t = .int .i64 (j : Nat) ∧ Hid (o.length = n ∧ ∀ q, q < j → lb o q = cv a b na q) ∧ Own3 wr B (.slice (some ⟨B, 0, none⟩) n n) o ∧ Ext w5 wr) (fun t _ => n - (intOf t).toNat)
  case atStart => exact ⟨0, _, Nat.zero_le _, rfl, ⟨by simp, fun q hq => by omega⟩, ho0, hB6⟩
  case round =>
    clear ho0 hB6
    obtain ⟨j, o, hj, rfl, HO, hown, hE⟩ := hrel
    by_cases hlt : j < n
    · have hx1 := (hE.cell (p := ad3.add j) (by rw [addr_add_block, HBB.out]; exact hb3)).trans (hc3 j (by omega))
      have hx2 := (hE.cell (p := ad4.add j) (by rw [addr_add_block, HBB.out]; exact hb4)).trans (hc4 j (by omega))
      have hx3 := (hE.cell (p := ad5.add j) (by rw [addr_add_block, HBB.out]; exact hb5)).trans (hc5 j (by omega))
      have hGj : Gl wr.drew := HG.out.ext (hE5.below hE).drew
      have hJJ := hJ.out wr.drew hGj j _ _ _ (H3.out j (by omega)) (H4.out j (by omega)) (H5.out j (by omega))
      have HST : Hid ((o.set j (cv a b na j)).length = n ∧ ∀ q, q < j + 1 → lb (o.set j (cv a b na j)) q = cv a b na q) := by
        refine ⟨by rw [List.length_set]; exact HO.out.1, fun q hq => ?_⟩
        rw [lb_set _ _ _ _ (by rw [HO.out.1]; exact hlt)]
        by_cases e : j = q
        · rw [if_pos e, e]
        · rw [if_neg e]; exact HO.out.2 q (by omega)
      generalize lb r3 j = x at *
      generalize lb r4 j = y at *
      generalize lb r5 j = z at *
      obtain ⟨N, hN⟩ : ∃ N, cv a b na j = N := ⟨_, rfl⟩
      rw [hN] at hJJ HST
      obtain ⟨z0, hz0⟩ : ∃ z0, N % 4294967296 = z0 := ⟨_, rfl⟩
      obtain ⟨z1, hz1⟩ : ∃ z1, N / 4294967296 % 4294967296 = z1 := ⟨_, rfl⟩
      obtain ⟨z2, hz2⟩ : ∃ z2, N / 18446744073709551616 % 4294967296 = z2 := ⟨_, rfl⟩
      rw [hz0, hz1, hz2] at hJJ
      have hol := HO.out.1
      have hj0 : (0 : Int) ≤ (j : Int) := by omega
      have hj1 : (j : Int) < (n : Int) := by omega
      have hj2 : (j : Int) < (m : Int) := by omega
      have hSS : wr.drew.cell? (ad3.add j) = some (.int .u32 (x : Nat)) ∧ wr.drew.cell? (ad4.add j) = some (.int .u32 (y : Nat)) ∧ wr.drew.cell? (ad5.add j) = some (.int .u32 (z : Nat)) := ⟨hx1, hx2, hx3⟩
      have hn3 : (ad3.add j).block ≠ B := by rw [addr_add_block]; omega
      have hn4 : (ad4.add j).block ≠ B := by rw [addr_add_block]; omega
      have hn5 : (ad5.add j).block ≠ B := by rw [addr_add_block]; omega
      have hown' : Own3 wr.drew B (.slice (some ⟨B, 0, none⟩) n n) o := hown
      clear hc3 hc4 hc5 HO hN hx1 hx2 hx3
      go_wp2_with (fail)
      go_region_held3 (fun X => X.cell? (ad3.add j) = some (.int .u32 (x : Nat)) ∧ X.cell? (ad4.add j) = some (.int .u32 (y : Nat)) ∧ X.cell? (ad5.add j) = some (.int .u32 (z : Nat)))
        (first
          | exact hSS
          | assumption
          | exact keep3 (by assumption) (by assumption)
          | exact keep3S (keep3 hSS hB7) hn3 hn4 hn5)
        (first
          | (go_at_call 113; ((with_reducible refine hJJ.mono ?_); rintro e w7 ⟨rfl, hB7⟩; have ho7 := hown'.ext hB7; have k0 := ho7.cell (j := j * 3) (by omega); have k1 := ho7.cell (j := j * 3 + 1) (by omega); have k2 := ho7.cell (j := j * 3 + 2) (by omega); have f0 := ho7.frozen (j * 3); have f1 := ho7.frozen (j * 3 + 1); have f2 := ho7.frozen (j * 3 + 2))))
      have ho8 := ho7.set_ j N (by omega)
      rw [hz0, hz1, hz2] at ho8
      have hsz : w5.heap.size ≤ B := by rw [HBB.out]; exact Nat.le_refl _
      have hE8 : Ext w5 (((w7.setCell ⟨B, j * 3, none⟩ (.int .u32 (z0 : Nat))).setCell ⟨B, j * 3 + 1, none⟩ (.int .u32 (z1 : Nat))).setCell ⟨B, j * 3 + 2, none⟩ (.int .u32 (z2 : Nat))) :=
        (((hE.drew.below hB7).setCell (p := ⟨B, j * 3, none⟩) hsz _).setCell (p := ⟨B, j * 3 + 1, none⟩) hsz _).setCell (p := ⟨B, j * 3 + 2, none⟩) hsz _
      clear ho7 hown hown' hE hB7 hJJ hSS
      go_wp2
      go_roundw
      case rel => exact ⟨j + 1, _, by omega, by go_num, HST, ho8, hE8⟩
      case measure => simp [intOf]; omega
    · obtain rfl : j = n := by omega
      have hcv : o = conv a b := by
        refine ext_lb (by rw [HO.out.1, HCL.out]) fun q hq => ?_
        rw [HO.out.1] at hq
        rw [HO.out.2 q hq, hca.out q hq]
      have hU := hown.toU
      rw [hcv] at hU
      have HF : Hid (∃ z, Ending.returned (.slice (some ⟨B, 0, none⟩) j j) = .returned z ∧ U3 wr z (conv a b)) := ⟨_, rfl, hU⟩
      have hE9 := hE5.below hE
      clear hU hown HO hE hc3 hc4 hc5
      go_wp2
      go_ret
      exact ⟨HF.out, hE9⟩
/-- Sums of products of any two rows. -/
theorem conv_all (w : World) (hg : Gl w) (v u : Value) (a b : List Nat) (hua : U w v a) (hub : U w u b) (hal : a.length ≤ 30000) (hbl : b.length ≤ 30000) (cs : List Nat) (hc : cvs a b = cs) :
    Calls Tryz.prog 96 #[v, u] w fun e w' => ∃ z, e = .returned z ∧ U3 w' z cs ∧ Ext w w' := by
  subst hc
  rcases Nat.lt_or_ge 24 (min a.length b.length) with h | h
  · exact (conv_big w hg v u a b hua hub hal hbl h).mono fun e w' ⟨⟨z, he, hz⟩, hB⟩ => ⟨z, he, hz, hB⟩
  · exact conv_B w v u a b hua hub (by omega) (by omega) h _ rfl
end Go.Proofs.YtigdflfhepelaaaGreatDoor
/- A slice of 32-bit limbs that reads as a list of naturals; kept while what lay in memory is kept. -/
namespace Go.Proofs.YtigdflfhepelaaaGreatDoor
open Go.RowKit

/-- The number n as a slice of its limbs. -/
def Un (w : World) (v : Value) (n : Nat) : Prop := U w v (limbs n)
theorem Un.below {w w' : World} {v : Value} {n : Nat} (h : Un w v n) (hb : Below w.heap.size w w') : Un w' v n := U.below h hb
end Go.Proofs.YtigdflfhepelaaaGreatDoor
/- walks -/
namespace Go.Proofs.YtigdflfhepelaaaGreatDoor
open Go.RowKit
set_option linter.unusedVariables false
set_option maxHeartbeats 400000
set_option maxRecDepth 100000

def rightB (xs : List Nat) : Bool := decide (xs.length ≤ 65536) && (xs.isEmpty || lb xs (xs.length - 1) != 0)

theorem bne_cast (a : Nat) : (((a : Nat) : Int) != 0) = (a != 0) := by
  rw [Bool.eq_iff_iff, bne_iff_ne, bne_iff_ne]; omega

theorem make_calls (w : World) (v : Value) (xs : List Nat) (h : U w v xs) :
    Calls Tryz.prog 63 #[v] w fun e w' => (∃ u, e = .returned u ∧ U w u (limbs (val xs))) ∧ w = w' := by
  have h' := h
  obtain ⟨A, c, rfl, ⟨hc, hm⟩, hx, hr⟩ := h
  go_enter Tryz.func63, Tryz.ntmps63
  go_wp2
  go_loop [3] (fun n => ∃ k : Nat, k ≤ xs.length ∧ n = .int .i64 k ∧ Hid (∀ j, k ≤ j → j < xs.length → lb xs j = 0)) (fun n => (intOf n).toNat)
  case atStart => exact ⟨xs.length, Nat.le_refl _, rfl, fun j h1 h2 => by omega⟩
  case round =>
    obtain ⟨k, hk, rfl, hz⟩ := hrel
    have hfin : ∀ c', k ≤ c' → (0 < k → lb xs (k - 1) ≠ 0) → U w (.slice A k c') (limbs (val xs)) := fun c' h1 h2 => by
      rw [strip_eq xs k hx hk hz.out h2]; exact h'.take hk h1
    rcases Nat.eq_zero_or_pos k with rfl | h0
    · have HF := Lib.hid (hfin 0 (Nat.le_refl _) (fun h => absurd h (by omega)))
      clear hfin
      go_wp2
      go_ways
      go_ret
      exact ⟨⟨_, rfl, HF.out⟩, rfl⟩
    · obtain ⟨ad, rfl, hb, hcell⟩ := hr (by omega)
      have hc1 := hcell (k - 1) (by omega)
      by_cases hx0 : lb xs (k - 1) = 0
      · have ht : ((((lb xs (k - 1) : Nat)) : Int) == 0) = true := by rw [hx0]; rfl
        have HX := Lib.hid hx0
        clear hx0
        go_wp2
        go_round
        case rel => exact ⟨k - 1, by omega, by go_num, fun j h1 h2 => by
          rcases Nat.lt_or_ge j k with h3 | h3
          · have : j = k - 1 := by omega
            subst this; exact HX.out
          · exact hz.out j h3 h2⟩
        case measure => simp [intOf]; omega
      · have ht : ((((lb xs (k - 1) : Nat)) : Int) == 0) = false := by rw [beq_eq_false_iff_ne]; omega
        have HF := Lib.hid (hfin k (Nat.le_refl _) (fun _ => hx0))
        clear hfin hx0
        go_wp2
        go_ret
        exact ⟨⟨_, rfl, HF.out⟩, rfl⟩
end Go.Proofs.YtigdflfhepelaaaGreatDoor
/- walks -/
namespace Go.Proofs.YtigdflfhepelaaaGreatDoor
open Go.RowKit
set_option linter.unusedVariables false
set_option maxHeartbeats 400000
set_option maxRecDepth 100000

end Go.Proofs.YtigdflfhepelaaaGreatDoor
/- Rows of limbs that a call has made itself. -/
namespace Go.Proofs.YtigdflfhepelaaaGreatDoor
open Go.RowKit
set_option linter.unusedVariables false

theorem cast_shl (x s : Nat) : ((x : Nat) : Int) * 2 ^ s % 4294967296 = ((x * 2 ^ s % 4294967296 : Nat) : Int) := by
  rw [Int.natCast_emod, Int.natCast_mul, Int.natCast_pow]; rfl
theorem cast_shr (x s : Nat) : ((x : Nat) : Int) / 2 ^ s = ((x / 2 ^ s : Nat) : Int) := by
  rw [Int.natCast_ediv, Int.natCast_pow]; rfl
theorem u32_or_cast (a b : Nat) (ha : a < 4294967296) (c : Int) (hc : c = (b : Nat)) (hb : b < 4294967296) : bits .or .u32 (a : Int) c = ((a ||| b : Nat) : Int) := by
  subst hc; exact u32_or_nat a b ha hb
theorem low_step (xs : List Nat) (k : Nat) (hx : ∀ x ∈ xs, x < 4294967296) (hk : k < xs.length) (h2 : xs.length ≤ 2) :
    bits .or .u64 ((val (xs.take k) : Nat) : Int) (IntKind.u64.wrap (IntKind.u64.wrap ((lb xs k : Nat) : Int) * 2 ^ (32 * k))) = ((val (xs.take (k + 1)) : Nat) : Int) := by
  have hl := lb_lt hx k
  have hv := val_lt (xs.take k) (fun x h => hx x (List.mem_of_mem_take h))
  rw [List.length_take, Nat.min_eq_left (by omega)] at hv
  have e0 : IntKind.u64.wrap ((lb xs k : Nat) : Int) = ((lb xs k : Nat) : Int) := by rw [IntKind.wrap_u64]; omega
  have hk1 : k = 0 ∨ k = 1 := by omega
  have hb : lb xs k * 2 ^ (32 * k) < 18446744073709551616 := by
    rcases hk1 with rfl | rfl
    · simp only [Nat.mul_zero, Nat.pow_zero]; omega
    · simp only [Nat.mul_one, Nat.reducePow]; omega
  have e1 : IntKind.u64.wrap (((lb xs k : Nat) : Int) * 2 ^ (32 * k)) = ((lb xs k * 2 ^ (32 * k) : Nat) : Int) := by
    have e : ((lb xs k : Nat) : Int) * 2 ^ (32 * k) = ((lb xs k * 2 ^ (32 * k) : Nat) : Int) := by rw [Int.natCast_mul, Int.natCast_pow]; rfl
    rw [IntKind.wrap_u64, e]
    omega
  have hv2 : val (xs.take k) < 18446744073709551616 := by
    rcases hk1 with rfl | rfl
    · simp only [Nat.pow_zero] at hv; omega
    · simp only [Nat.reducePow] at hv; omega
  rw [e0, e1, u64_or_nat _ _ hv2 hb, or_eq_add _ _ _ (by rw [← pow32]; exact hv), val_take_succ xs k hk, pow32]
end Go.Proofs.YtigdflfhepelaaaGreatDoor
