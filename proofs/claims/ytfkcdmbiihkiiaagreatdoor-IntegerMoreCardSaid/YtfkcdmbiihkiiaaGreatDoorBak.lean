/- Whole numbers: their order. -/
import Derived.Test.YtfkcdmbiihkiiaaGreatDoorBaj
import Derived.Test.YtfkcdmbiihkiiaaGreatDoorBag
import Derived.Test.YtfkcdmbiihkiiaaGreatDoorBaf
import Derived.Test.YtfkcdmbiihkiiaaGreatDoorBae

namespace Go.Proofs.YtfkcdmbiihkiiaaGreatDoor
open Go.RowKit
set_option linter.unusedVariables false
set_option maxHeartbeats 400000

set_option maxRecDepth 100000 in
theorem or2 (w : World) (g : Nat) (x y : Int) (h0 : w.cell? ⟨g, 0, none⟩ = some (.int .i64 x)) (h1 : w.cell? ⟨g, 1, none⟩ = some (.int .i64 y)) (r : Int) (hr : (if x = 0 then y else x) = r) :
    Calls Tryz.prog 60 #[.slice (some ⟨g, 0, none⟩) 2 2] w fun e w' => e = .returned (.int .i64 r) ∧ Ext w w' := by
  go_enter Tryz.func60, Tryz.ntmps60
  go_wp2
  go_loopw [8] (fun t wr => (t = .int .i64 0 ∨ (t = .int .i64 1 ∧ x = 0) ∨ (t = .int .i64 2 ∧ x = 0 ∧ y = 0)) ∧ wr = w) (fun t _ => 2 - (intOf t).toNat)
  case atStart => exact ⟨.inl rfl, rfl⟩
  case round =>
    obtain ⟨rfl | ⟨rfl, hx⟩ | ⟨rfl, hx, hy⟩, rfl⟩ := hrel
    · by_cases hx : x = 0
      · have q1 : (x != 0) = false := by rw [bne_eq_false_iff_eq]; exact hx
        have HX := Lib.hid hx
        clear hr hx
        go_wp2
        go_roundw
        case rel => exact ⟨.inr (.inl ⟨rfl, HX.out⟩), by trivial⟩
        case measure => simp [intOf]
      · have q1 : (x != 0) = true := by rw [bne_iff_ne]; exact hx
        rw [if_neg hx] at hr
        have HR := Lib.hid hr
        clear hr hx
        go_wp2
        go_ret
        exact ⟨by first | (rw [HR.out]; done) | (rw [HR.out]; rfl), Ext.refl _⟩
    · rw [if_pos hx] at hr
      have HR := Lib.hid hr
      have HX := Lib.hid hx
      clear hr hx
      by_cases hy : y = 0
      · have q1 : (y != 0) = false := by rw [bne_eq_false_iff_eq]; exact hy
        have HY := Lib.hid hy
        clear hy
        go_wp2
        go_roundw
        case rel => exact ⟨.inr (.inr ⟨rfl, HX.out, HY.out⟩), by trivial⟩
        case measure => simp [intOf]
      · have q1 : (y != 0) = true := by rw [bne_iff_ne]; exact hy
        clear hy
        go_wp2
        go_ret
        exact ⟨by first | (rw [HR.out]; done) | (rw [HR.out]; rfl), Ext.refl _⟩
    · rw [if_pos hx, hy] at hr
      have HR := Lib.hid hr
      clear hr hx hy
      go_wp2
      go_ret
      exact ⟨by rw [← HR.out]; first | done | rfl, Ext.refl _⟩

theorem cmp_math (a b : Int) : (if cmpI (Int.sign a) (Int.sign b) = 0 then Int.sign a * cmpI (a.natAbs : Int) (b.natAbs : Int) else cmpI (Int.sign a) (Int.sign b)) = cmpI a b := by
  have hs : ∀ z : Int, (z < 0 ∧ Int.sign z = -1) ∨ (z = 0 ∧ Int.sign z = 0) ∨ (0 < z ∧ Int.sign z = 1) := fun z => by
    rcases Int.lt_trichotomy z 0 with h | h | h
    · exact .inl ⟨h, Int.sign_eq_neg_one_of_neg h⟩
    · subst h; exact .inr (.inl ⟨rfl, rfl⟩)
    · exact .inr (.inr ⟨h, Int.sign_eq_one_of_pos h⟩)
  rcases hs a with ⟨h1, e1⟩ | ⟨h1, e1⟩ | ⟨h1, e1⟩ <;> rcases hs b with ⟨h2, e2⟩ | ⟨h2, e2⟩ | ⟨h2, e2⟩ <;> rw [e1, e2] <;> unfold cmpI <;> simp <;> (repeat' split) <;> omega
theorem cmpI_bounds (x y : Int) : -1 ≤ cmpI x y ∧ cmpI x y ≤ 1 := by unfold cmpI; split <;> (try split) <;> omega
theorem sign_bounds (x : Int) : Int.sign x = -1 ∨ Int.sign x = 0 ∨ Int.sign x = 1 := by
  rcases Int.lt_trichotomy x 0 with h | h | h
  · exact .inl (Int.sign_eq_neg_one_of_neg h)
  · subst h; exact .inr (.inl rfl)
  · exact .inr (.inr (Int.sign_eq_one_of_pos h))

set_option maxRecDepth 100000 in
set_option maxHeartbeats 8000000 in
theorem zcmp (w : World) (va vb : Value) (a b : Int) (ha : Zn w va a) (hb : Zn w vb b) (k : Int) (hk : cmpI a b = k) :
    Calls Tryz.prog 23 #[va, vb] w fun e w' => e = .returned (.int .i64 k) ∧ Ext w w' := by
  have hcm := cmp_math a b
  rw [hk] at hcm
  obtain ⟨sa, hsa⟩ : ∃ s, Int.sign a = s := ⟨_, rfl⟩
  obtain ⟨sb, hsb⟩ : ∃ s, Int.sign b = s := ⟨_, rfl⟩
  have hSa := Lib.hid (fun W h => zsign W va a h sa hsa)
  have hSb := Lib.hid (fun W h => zsign W vb b h sb hsb)
  have hb1 := sign_bounds a
  rw [hsa] at hb1
  have ha' := ha
  have hb' := hb
  obtain ⟨p, A, L, c, n, rfl, hu, hL, hz, -, hza, hzn⟩ := ha.open
  obtain ⟨q, B, K, d, m, rfl, hv, hK, hz2, -, hza2, hzn2⟩ := hb.open
  rw [hsa, hsb, hza, hza2] at hcm
  obtain ⟨cm, hcmv⟩ : ∃ x, cmpI (n : Int) (m : Int) = x := ⟨_, rfl⟩
  obtain ⟨cc, hcc⟩ : ∃ x, cmpI sa sb = x := ⟨_, rfl⟩
  obtain ⟨pr, hpr⟩ : ∃ x, sa * cm = x := ⟨_, rfl⟩
  have hb2 := cmpI_bounds n m
  rw [hcmv] at hb2
  have hprb : -1 ≤ pr ∧ pr ≤ 1 := by
    rcases hb1 with h | h | h <;> rw [h] at hpr <;> omega
  have hN := Lib.hid (fun W (k : Ext w W) => cmp_B W (.slice A L c) (.slice B K d) n m (Un.below hu k) (Un.below hv k) cm hcmv)
  have hCp := Lib.hid (fun W => cmpInt_calls W sa sb)
  rw [hcc] at hCp
  rw [hcmv, hcc, hpr] at hcm
  have HO := Lib.hid hcm
  have o1 : sa * cm = pr := hpr
  have o2 : IntKind.i64.wrap pr = pr := IntWalk.i64_in _ (by omega)
  have hE0 := (((Ext.refl w).alloc (.cells #[.bool p, .slice A L c] 24)).alloc (.cells #[.bool q, .slice B K d] 24)).drew
  have hP0 := (Ib.new w p (.slice A L c) 24).ext (((Ext.refl _).alloc (.cells #[.bool q, .slice B K d] 24)).drew)
  have hQ0 := (Ib.new2 w (.cells #[.bool p, .slice A L c] 24) q (.slice B K d) 24).ext ((Ext.refl _).drew)
  have hS0 : (w.heap.size + 1 < ((w.alloc (.cells #[.bool p, .slice A L c] 24)).alloc (.cells #[.bool q, .slice B K d] 24)).drew.heap.size ∧ ((w.alloc (.cells #[.bool p, .slice A L c] 24)).alloc (.cells #[.bool q, .slice B K d] 24)).drew.cell? ⟨w.heap.size, 0, none⟩ = some (.bool p) ∧ ((w.alloc (.cells #[.bool p, .slice A L c] 24)).alloc (.cells #[.bool q, .slice B K d] 24)).drew.cell? ⟨w.heap.size, 1, none⟩ = some (.slice A L c) ∧ ((w.alloc (.cells #[.bool p, .slice A L c] 24)).alloc (.cells #[.bool q, .slice B K d] 24)).drew.cell? ⟨w.heap.size + 1, 0, none⟩ = some (.bool q) ∧ ((w.alloc (.cells #[.bool p, .slice A L c] 24)).alloc (.cells #[.bool q, .slice B K d] 24)).drew.cell? ⟨w.heap.size + 1, 1, none⟩ = some (.slice B K d)) ∧ Ext w ((w.alloc (.cells #[.bool p, .slice A L c] 24)).alloc (.cells #[.bool q, .slice B K d] 24)).drew := ⟨⟨by simp, hP0.2.1, hP0.2.2.1, hQ0.2.1, hQ0.2.2.1⟩, hE0⟩
  clear hb1 hb2 hcm hcc hpr hcmv hsa hsb hza hzn hza2 hzn2 hz hz2 hL hK hk hP0 hQ0 hE0
  go_enter Tryz.func23, Tryz.ntmps23
  go_wp2
  go_region_held3 (fun X => (w.heap.size + 1 < X.heap.size ∧ X.cell? ⟨w.heap.size, 0, none⟩ = some (.bool p) ∧ X.cell? ⟨w.heap.size, 1, none⟩ = some (.slice A L c) ∧ X.cell? ⟨w.heap.size + 1, 0, none⟩ = some (.bool q) ∧ X.cell? ⟨w.heap.size + 1, 1, none⟩ = some (.slice B K d)) ∧ Ext w X)
    (first
      | assumption
      | exact hS0
      | exact keepI2n (by assumption) (by assumption)
      | exact keepI2n (by assumption) ((Ext.refl _).alloc _))
    (first
      | (go_at_call 25; ((with_reducible refine (hSa.out _ (ha'.below (by go_split_ands; assumption))).mono ?_); rintro e w2 ⟨rfl, hE2⟩))
      | (go_at_call 25; ((with_reducible refine (hSb.out _ (hb'.below (by go_split_ands; assumption))).mono ?_); rintro e w3 ⟨rfl, hE3⟩))
      | (go_at_call 61; ((with_reducible refine (hCp.out _).mono ?_); rintro e w4 ⟨rfl, rfl⟩))
      | (go_at_call 46; ((with_reducible refine (hN.out _ (by go_split_ands; assumption)).mono ?_); rintro e w5 ⟨rfl, hE5⟩))
      | (go_at_call 60; (refine (or2 _ _ cc pr (by go_simp) (by go_simp) k HO.out).mono ?_); rintro e w6 ⟨rfl, hE6⟩))
  go_wp2
  go_ret
  exact ⟨rfl, by go_split_ands; assumption⟩
end Go.Proofs.YtfkcdmbiihkiiaaGreatDoor
/- Words to the base 2^64 and the numbers that they are: plain lists and naturals. -/
namespace Go.Proofs.YtfkcdmbiihkiiaaGreatDoor
set_option linter.unusedVariables false

/-- The number that words are, the lowest first. -/
def wal : List Nat → Nat
  | [] => 0
  | x :: xs => x + 18446744073709551616 * wal xs
def BB : Nat := 18446744073709551616
theorem wal_append (xs ys : List Nat) : wal (xs ++ ys) = wal xs + BB ^ xs.length * wal ys := by
  induction xs with
  | nil => simp [wal]
  | cons x xs ih =>
    simp only [List.cons_append, wal, ih, List.length_cons, Nat.pow_succ]
    rw [Nat.mul_add, Nat.add_assoc]
    congr 2
    rw [← Nat.mul_assoc, Nat.mul_comm 18446744073709551616]
    rfl
theorem wal_lt (xs : List Nat) (h : ∀ x ∈ xs, x < 18446744073709551616) : wal xs < BB ^ xs.length := by
  induction xs with
  | nil => simp [wal]
  | cons x xs ih =>
    have h1 := ih fun y hy => h y (List.mem_cons_of_mem _ hy)
    have h2 := h x (List.mem_cons_self ..)
    simp only [wal, List.length_cons, Nat.pow_succ]
    have : wal xs * 18446744073709551616 + 18446744073709551616 ≤ BB ^ xs.length * BB := by
      have := Nat.mul_le_mul_right 18446744073709551616 (show wal xs + 1 ≤ BB ^ xs.length from h1)
      rw [Nat.add_mul] at this
      show _ ≤ BB ^ xs.length * 18446744073709551616
      omega
    omega
theorem wal_zeros (n : Nat) : wal (List.replicate n 0) = 0 := by
  induction n with
  | zero => rfl
  | succ n ih => rw [List.replicate_succ, wal, ih]
theorem wal_set (o : List Nat) (i x : Nat) (h : i < o.length) : wal (o.set i x) + BB ^ i * lb o i = wal o + BB ^ i * x := by
  induction o generalizing i with
  | nil => simp at h
  | cons y ys ih =>
    cases i with
    | zero =>
      simp only [List.set_cons_zero, wal, Nat.pow_zero, Nat.one_mul]
      have : lb (y :: ys) 0 = y := rfl
      omega
    | succ i =>
      have := ih i (by simpa using h)
      simp only [List.set_cons_succ, wal]
      have e : lb (y :: ys) (i + 1) = lb ys i := by simp [lb]
      rw [e, Nat.pow_succ, Nat.mul_comm (BB ^ i) BB]
      have h2 : BB * (wal (ys.set i x) + BB ^ i * lb ys i) = BB * (wal ys + BB ^ i * x) := by rw [this]
      rw [Nat.mul_add, Nat.mul_add, ← Nat.mul_assoc, ← Nat.mul_assoc] at h2
      show y + BB * _ + _ = y + BB * _ + _
      omega
theorem wal_take_succ (xs : List Nat) (k : Nat) (h : k < xs.length) : wal (xs.take (k + 1)) = wal (xs.take k) + BB ^ k * lb xs k := by
  have e : xs.take (k + 1) = xs.take k ++ [lb xs k] := by
    rw [List.take_add_one, List.getElem?_eq_getElem h]
    unfold lb
    rw [List.getElem?_eq_getElem h]; rfl
  rw [e, wal_append, List.length_take, Nat.min_eq_left (by omega)]
  simp [wal]
theorem wal_cut (xs : List Nat) (k : Nat) (h : k ≤ xs.length) : wal xs = wal (xs.take k) + BB ^ k * wal (xs.drop k) := by
  conv => lhs; rw [← List.take_append_drop k xs]
  rw [wal_append, List.length_take, Nat.min_eq_left h]
/-- Limbs as words. -/
def packL : List Nat → List Nat
  | [] => []
  | [x] => [x]
  | x :: y :: r => (x + 4294967296 * y) :: packL r
theorem packL_len : ∀ xs : List Nat, (packL xs).length = (xs.length + 1) / 2
  | [] => rfl
  | [x] => by simp [packL]
  | x :: y :: r => by rw [packL, List.length_cons, packL_len r]; simp only [List.length_cons]; omega
theorem wal_packL : ∀ xs : List Nat, wal (packL xs) = val xs
  | [] => rfl
  | [x] => rfl
  | x :: y :: r => by rw [packL, wal, wal_packL r]; simp only [val]; omega
theorem lb_packL : ∀ (xs : List Nat) (i : Nat), lb (packL xs) i = lb xs (2 * i) + 4294967296 * lb xs (2 * i + 1)
  | [], i => by simp [packL, lb]
  | [x], i => by
    cases i with
    | zero => simp [packL, lb]
    | succ i => rw [show 2 * (i + 1) = (2 * i + 1) + 1 by omega]; simp [packL, lb]
  | x :: y :: r, i => by
    cases i with
    | zero => simp [packL, lb]
    | succ i =>
      have := lb_packL r i
      have e1 : lb (packL (x :: y :: r)) (i + 1) = lb (packL r) i := by simp [packL, lb]
      have e2 : lb (x :: y :: r) (2 * (i + 1)) = lb r (2 * i) := by rw [show 2 * (i + 1) = 2 * i + 1 + 1 by omega]; simp [lb]
      have e3 : lb (x :: y :: r) (2 * (i + 1) + 1) = lb r (2 * i + 1) := by rw [show 2 * (i + 1) + 1 = 2 * i + 1 + 1 + 1 by omega]; simp [lb]
      rw [e1, e2, e3, this]
theorem packL_lt (xs : List Nat) (h : ∀ x ∈ xs, x < 4294967296) : ∀ x ∈ packL xs, x < 18446744073709551616 := by
  refine mem_of_lb fun j hj => ?_
  rw [lb_packL]
  have h1 := lb_lt h (2 * j)
  have h2 := lb_lt h (2 * j + 1)
  omega
/-- Words as limbs. -/
def unpackL : List Nat → List Nat
  | [] => []
  | x :: r => x % 4294967296 :: x / 4294967296 :: unpackL r
theorem unpackL_len (ws : List Nat) : (unpackL ws).length = 2 * ws.length := by
  induction ws with
  | nil => rfl
  | cons x r ih => simp only [unpackL, List.length_cons, ih]; omega
theorem val_unpackL (ws : List Nat) : val (unpackL ws) = wal ws := by
  induction ws with
  | nil => rfl
  | cons x r ih => simp only [unpackL, val, wal, ih]; omega
theorem unpackL_lt (ws : List Nat) (h : ∀ x ∈ ws, x < 18446744073709551616) : ∀ x ∈ unpackL ws, x < 4294967296 := by
  induction ws with
  | nil => intro x hx; simp [unpackL] at hx
  | cons y r ih =>
    intro x hx
    have h0 := h y (List.mem_cons_self ..)
    simp only [unpackL, List.mem_cons] at hx
    rcases hx with rfl | rfl | hx
    · omega
    · omega
    · exact ih (fun z hz => h z (List.mem_cons_of_mem _ hz)) x hx
theorem lb_unpackL (ws : List Nat) (i : Nat) : lb (unpackL ws) (2 * i) = lb ws i % 4294967296 ∧ lb (unpackL ws) (2 * i + 1) = lb ws i / 4294967296 := by
  induction ws generalizing i with
  | nil => simp [unpackL, lb]
  | cons x r ih =>
    cases i with
    | zero => simp [unpackL, lb]
    | succ i =>
      have := ih i
      have e1 : lb (unpackL (x :: r)) (2 * (i + 1)) = lb (unpackL r) (2 * i) := by rw [show 2 * (i + 1) = 2 * i + 1 + 1 by omega]; simp [unpackL, lb]
      have e2 : lb (unpackL (x :: r)) (2 * (i + 1) + 1) = lb (unpackL r) (2 * i + 1) := by rw [show 2 * (i + 1) + 1 = 2 * i + 1 + 1 + 1 by omega]; simp [unpackL, lb]
      have e3 : lb (x :: r) (i + 1) = lb r i := by simp [lb]
      rw [e1, e2, e3]; exact this

/-- One place more, added. -/
theorem wadd_step (P S S' x y c d A v : Nat) (hset : S' + P * x = S + P * v) (hinv : S + P * c = A) (hd : x + y + c = v + BB * d) : S' + P * BB * d = A + P * y := by
  have h1 : P * (x + y + c) = P * (v + BB * d) := by rw [hd]
  rw [Nat.mul_add, Nat.mul_add, Nat.mul_add, ← Nat.mul_assoc] at h1
  omega
/-- One place more, taken away. -/
theorem wsub_step (P S S' x y c d A T v : Nat) (hset : S' + P * x = S + P * v) (hinv : S + T = A + P * c) (hd : x + BB * d = v + y + c) : S' + (T + P * y) = A + P * BB * d := by
  have h1 : P * (x + BB * d) = P * (v + y + c) := by rw [hd]
  rw [Nat.mul_add, Nat.mul_add, Nat.mul_add, ← Nat.mul_assoc] at h1
  omega
end Go.Proofs.YtfkcdmbiihkiiaaGreatDoor
/- The mathematics of a digit of a quotient: the guess by three words and two is right, or one too great. -/
namespace Go.Proofs.YtfkcdmbiihkiiaaGreatDoor
open Go.RowKit
set_option linter.unusedVariables false
set_option maxHeartbeats 400000

/-- What is known of a guess: B the base, P the places below the last two words of the divisor, D those two words, T the last three of what is divided. -/
structure GsI (B P D T V U v1 v0 t1 u0 q r : Nat) : Prop where
  inv : q * v1 + r = t1
  top : U < (q + 1) * V
  lt : q < B

/-- The test that the program makes tells whether the guess is above the three words. -/
theorem gs_test (B D T v1 v0 t1 u0 q r : Nat) (hD : D = v1 * B + v0) (hT : T = t1 * B + u0) (hq : q * v1 + r = t1) : q * D ≤ T ↔ q * v0 ≤ r * B + u0 := by
  have h1 : q * D = q * v1 * B + q * v0 := by rw [hD, Nat.mul_add, Nat.mul_assoc]
  have h2 : t1 * B = q * v1 * B + r * B := by rw [← hq, Nat.add_mul]
  omega

theorem gs_down (B P D T V U v1 v0 vr t1 u0 ur q r : Nat) (hD : D = v1 * B + v0) (hT : T = t1 * B + u0) (hV : V = D * P + vr) (hU : U = T * P + ur) (hur : ur < P)
    (h : GsI B P D T V U v1 v0 t1 u0 q r) (hgt : r * B + u0 < q * v0) : 1 ≤ q ∧ GsI B P D T V U v1 v0 t1 u0 (q - 1) (r + v1) := by
  have h1 : T < q * D := Nat.lt_of_not_le fun hle => by
    have := (gs_test B D T v1 v0 t1 u0 q r hD hT h.inv).1 hle
    omega
  have hq : 1 ≤ q := by
    rcases Nat.eq_zero_or_pos q with h0 | h0
    · rw [h0, Nat.zero_mul] at h1; omega
    · exact h0
  refine ⟨hq, ?_⟩
  obtain ⟨p, rfl⟩ : ∃ p, q = p + 1 := ⟨q - 1, by omega⟩
  refine ⟨?_, ?_, by have := h.lt; omega⟩
  · have := h.inv
    rw [Nat.add_sub_cancel]
    rw [Nat.add_mul, Nat.one_mul] at this
    omega
  · rw [Nat.add_sub_cancel]
    have h2 : (T + 1) * P ≤ (p + 1) * D * P := Nat.mul_le_mul_right P h1
    have h3 : (p + 1) * V = (p + 1) * D * P + (p + 1) * vr := by rw [hV, Nat.mul_add, Nat.mul_assoc]
    rw [Nat.add_mul T 1, Nat.one_mul] at h2
    omega

/-- At the end: it is right, or one too great. -/
theorem gs_end (B P D T V U v1 v0 vr t1 u0 ur q r : Nat) (hD : D = v1 * B + v0) (hT : T = t1 * B + u0) (hV : V = D * P + vr) (hU : U = T * P + ur) (hvr : vr ≤ P) (hBD : B ≤ D)
    (h : GsI B P D T V U v1 v0 t1 u0 q r) (hle : q * v0 ≤ r * B + u0) : q * V ≤ U + V := by
  have h1 := (gs_test B D T v1 v0 t1 u0 q r hD hT h.inv).2 hle
  have h2 : q * D * P ≤ T * P := Nat.mul_le_mul_right P h1
  have h3 : q * V = q * D * P + q * vr := by rw [hV, Nat.mul_add, Nat.mul_assoc]
  have h4 : q * vr ≤ D * P := Nat.mul_le_mul (by have := h.lt; omega) hvr
  omega

/-- One word of the product is taken off: the borrow stays a word. -/
theorem ms_step (x q bo v s1 c1 s c2 hi lo b2 : Nat) (hx : x < 18446744073709551616) (hq : q < 18446744073709551616) (hb : bo < 18446744073709551616) (hv : v < 18446744073709551616)
    (hp : x * q = 18446744073709551616 * hi + lo) (hlo : lo < 18446744073709551616)
    (h1 : s1 + lo = v + 18446744073709551616 * c1) (hs1 : s1 < 18446744073709551616) (h2 : s + bo = s1 + 18446744073709551616 * c2) (hs : s < 18446744073709551616) (hb2 : hi + c1 + c2 = b2) :
    v + 18446744073709551616 * b2 = s + x * q + bo ∧ b2 < 18446744073709551616 ∧ hi + c1 < 18446744073709551616 := by
  have h3 : x * q ≤ 18446744073709551615 * 18446744073709551615 := Nat.mul_le_mul (by omega) (by omega)
  refine ⟨by omega, by omega, by omega⟩

end Go.Proofs.YtfkcdmbiihkiiaaGreatDoor
/- The mathematics of bits.Div64 for a divisor whose first bit is set: two digits to the base of 2^32. -/
namespace Go.Proofs.YtfkcdmbiihkiiaaGreatDoor
open Go.RowKit
set_option linter.unusedVariables false
set_option maxHeartbeats 400000

/-- A digit of hi B + u by y = y1 B + y0: q is not below it, r is what the first half leaves. -/
structure DvI (B y y1 hi u q r : Nat) : Prop where
  inv : q * y1 + r = hi
  top : hi * B + u < (q + 1) * y

theorem dv_first (B y y1 y0 hi u q r : Nat) (hy : y = y1 * B + y0) (hu : u < B) (h1 : 0 < y1) (hq : hi / y1 = q) (hr : hi % y1 = r) : DvI B y y1 hi u q r ∧ r < y1 := by
  have hlt : r < y1 := by rw [← hr]; exact Nat.mod_lt _ h1
  have hinv : q * y1 + r = hi := by rw [← hq, ← hr, Nat.mul_comm]; exact Nat.div_add_mod _ _
  refine ⟨⟨hinv, ?_⟩, hlt⟩
  have h2 : (hi + 1) * B ≤ (q + 1) * y1 * B := Nat.mul_le_mul_right B (by rw [Nat.add_mul, Nat.one_mul]; omega)
  have h3 : (q + 1) * y = (q + 1) * y1 * B + (q + 1) * y0 := by rw [hy, Nat.mul_add, Nat.mul_assoc]
  rw [Nat.add_mul, Nat.one_mul] at h2
  omega

theorem dv_test (B y y1 y0 hi u q r : Nat) (hy : y = y1 * B + y0) (hq : q * y1 + r = hi) : q * y ≤ hi * B + u ↔ q * y0 ≤ B * r + u := by
  have h1 : q * y = q * y1 * B + q * y0 := by rw [hy, Nat.mul_add, Nat.mul_assoc]
  have h2 : hi * B = q * y1 * B + B * r := by rw [← hq, Nat.add_mul, Nat.mul_comm r B]
  omega

theorem dv_down (B y y1 y0 hi u q r : Nat) (hy : y = y1 * B + y0) (hu : u < B) (hh : hi < y) (h : DvI B y y1 hi u q r) (hc : B ≤ q ∨ B * r + u < q * y0) :
    1 ≤ q ∧ DvI B y y1 hi u (q - 1) (r + y1) := by
  have h1 : hi * B + u < q * y := by
    rcases hc with hc | hc
    · have h2 : (hi + 1) * B ≤ y * B := Nat.mul_le_mul_right B hh
      have h3 : B * y ≤ q * y := Nat.mul_le_mul_right y hc
      rw [Nat.add_mul, Nat.one_mul] at h2
      rw [Nat.mul_comm B y] at h3
      omega
    · exact Nat.lt_of_not_le fun hle => by
        have := (dv_test B y y1 y0 hi u q r hy h.inv).1 hle
        omega
  have hq : 1 ≤ q := by
    rcases Nat.eq_zero_or_pos q with h0 | h0
    · rw [h0, Nat.zero_mul] at h1; omega
    · exact h0
  refine ⟨hq, ?_⟩
  obtain ⟨p, rfl⟩ : ∃ p, q = p + 1 := ⟨q - 1, by omega⟩
  refine ⟨?_, by rw [Nat.add_sub_cancel]; exact h1⟩
  have := h.inv
  rw [Nat.add_sub_cancel]
  rw [Nat.add_mul, Nat.one_mul] at this
  omega

/-- Where the loop is left: the digit is right. -/
theorem dv_end (B y y1 y0 hi u q r : Nat) (hy : y = y1 * B + y0) (h0 : y0 < B) (hh : hi < y) (h : DvI B y y1 hi u q r) (hc : q < B ∧ q * y0 ≤ B * r + u ∨ B ≤ r) :
    q < B ∧ q * y ≤ hi * B + u ∧ hi * B + u < (q + 1) * y := by
  have hinv := h.inv
  have hqB : q < B := by
    rcases hc with hc | hc
    · exact hc.1
    · refine Nat.lt_of_not_le fun hle => ?_
      have h2 : B * y1 ≤ q * y1 := Nat.mul_le_mul_right y1 hle
      rw [Nat.mul_comm B y1] at h2
      omega
  refine ⟨hqB, (dv_test B y y1 y0 hi u q r hy hinv).2 ?_, h.top⟩
  rcases hc with hc | hc
  · exact hc.2
  · have h2 : q * y0 ≤ B * B := Nat.mul_le_mul (by omega) (by omega)
    have h3 : B * B ≤ B * r := Nat.mul_le_mul_left B hc
    omega

/-- Both digits together. -/
theorem dv_both (B y hi u1 u0 q1 q0 m r : Nat) (h1 : q1 * y + m = hi * B + u1) (h0 : q0 * y + r = m * B + u0) : (q1 * B + q0) * y + r = hi * (B * B) + (u1 * B + u0) := by
  have h2 : (q1 * y + m) * B = (hi * B + u1) * B := by rw [h1]
  rw [Nat.add_mul, Nat.add_mul, Nat.mul_assoc hi B B] at h2
  rw [Nat.add_mul, Nat.mul_assoc q1 B y, Nat.mul_comm B y, ← Nat.mul_assoc q1 y B]
  omega

/-- What is left is below the divisor, and so comes out right though each of both products is cut to 64 bits. -/
theorem dv_wrap (B y hi u q m : Nat) (hm : q * y + m = hi * B + u) (hlt : m < 18446744073709551616) :
    ((hi * B % 18446744073709551616 + u) % 18446744073709551616 + 18446744073709551616 - q * y % 18446744073709551616) % 18446744073709551616 = m := by
  generalize hi * B = x at *
  generalize q * y = z at *
  omega

/-- The answer is the quotient and the rest. -/
theorem dv_done (y n q r : Nat) (h : q * y + r = n) (hr : r < y) : n / y = q ∧ n % y = r := by
  subst h
  refine ⟨?_, ?_⟩
  · rw [Nat.mul_comm, Nat.mul_add_div (by omega), Nat.div_eq_of_lt hr, Nat.add_zero]
  · rw [Nat.mul_comm, Nat.mul_add_mod, Nat.mod_eq_of_lt hr]
end Go.Proofs.YtfkcdmbiihkiiaaGreatDoor
/- math/bits: a word whose first bit is set has no leading noughts. -/
namespace Go.Proofs.YtfkcdmbiihkiiaaGreatDoor
open Go.RowKit
set_option linter.unusedVariables false
set_option maxHeartbeats 400000

theorem len64_top (w : World) (x : Nat) (h : 9223372036854775808 ≤ x) (h2 : x < 18446744073709551616) :
    Calls Tryz.prog 144 #[.int .u64 x] w fun e w' => e = .returned (.int .i64 64) ∧ w = w' := by
  have h32 : decide ((4294967296 : Int) ≤ (x : Nat)) = true := by rw [decide_eq_true_iff]; omega
  have h65 : decide ((65536 : Int) ≤ (x : Nat) / 4294967296) = true := by rw [decide_eq_true_iff]; omega
  have h256 : decide ((256 : Int) ≤ (x : Nat) / 4294967296 / 65536) = true := by rw [decide_eq_true_iff]; omega
  have hI := fun w => idx_tab8 (P := Tryz.prog) 9 Tryz.underlying9 .u8 (x / 4294967296 / 65536 / 256 % 256) (by omega) w
  have hB : blen (x / 4294967296 / 65536 / 256 % 256) = 8 := by
    apply Nat.le_antisymm
    · exact blen_le_of_lt (by omega)
    · exact lt_blen_of_le (by omega)
  have hv : ((x / 4294967296 / 65536 / 256 % 256 : Nat) : Int) = (x : Int) / 4294967296 / 65536 / 256 % 256 := by omega
  rw [hv, hB] at hI
  clear hv hB
  go_enter Tryz.func144, Tryz.ntmps144
  generalize hT : (ByteArray.mk _ : ByteArray) = T
  have hT2 : T = tab8 := by rw [← hT]; exact tab8_eq
  rw [← hT2] at hI
  clear hT hT2 h h2
  go_wp2
  go_ret
  exact ⟨rfl, rfl⟩

theorem lead64_top (w : World) (x : Nat) (h : 9223372036854775808 ≤ x) (h2 : x < 18446744073709551616) :
    Calls Tryz.prog 194 #[.int .u64 x] w fun e w' => e = .returned (.int .i64 0) ∧ w = w' := by
  go_enter Tryz.func194, Tryz.ntmps194
  go_wp2_with (fail)
  refine (len64_top _ x h h2).mono ?_
  rintro e w' ⟨rfl, rfl⟩
  go_wp2
  go_ret
  exact ⟨rfl, rfl⟩
end Go.Proofs.YtfkcdmbiihkiiaaGreatDoor
