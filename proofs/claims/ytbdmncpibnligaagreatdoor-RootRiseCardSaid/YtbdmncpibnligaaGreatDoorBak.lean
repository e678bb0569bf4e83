/- Sums and differences, limb by limb: plain lists and naturals. -/
import Derived.Test.YtbdmncpibnligaaGreatDoorBag
import Derived.Test.YtbdmncpibnligaaGreatDoorBaj

namespace Go.Proofs.YtbdmncpibnligaaGreatDoor

/-- Two limbs. -/
abbrev P32 := { p : Nat × Nat // p.1 < 4294967296 ∧ p.2 < 4294967296 }

/-- The limbs of two rows, place by place, as many as the first one has. -/
def pairsL (xs ys : List Nat) (k : Nat) : List (Nat × Nat) := (List.range k).map fun j => (lb xs j, lb ys j)
theorem pairsL_succ (xs ys : List Nat) (k : Nat) : pairsL xs ys (k + 1) = pairsL xs ys k ++ [(lb xs k, lb ys k)] := by simp [pairsL, List.range_succ]
def firsts (l : List P32) : List Nat := l.map (·.1.1)
def seconds (l : List P32) : List Nat := l.map (·.1.2)

theorem range_lb (xs : List Nat) (L : Nat) (h : xs.length ≤ L) : val ((List.range L).map fun j => lb xs j) = val xs := by
  rw [← val_take ((List.range L).map fun j => lb xs j) xs.length]
  · congr 1
    apply ext_lb
    · simp; omega
    · intro j hj
      simp at hj
      rw [lb_take (by omega)]
      simp [lb, show j < L by omega]
  · intro j h1 h2
    simp at h2
    simp [h2, lb_out h1]

theorem firsts_all {l : List P32} {xs ys : List Nat} (h : l.map (·.1) = pairsL xs ys xs.length) : val (firsts l) = val xs := by
  have : firsts l = (List.range xs.length).map fun j => lb xs j := by
    have := congrArg (List.map Prod.fst) h
    simpa [firsts, pairsL, List.map_map, Function.comp_def] using this
  rw [this, range_lb _ _ (Nat.le_refl _)]
theorem seconds_all {l : List P32} {xs ys : List Nat} (h : l.map (·.1) = pairsL xs ys xs.length) (hl : ys.length ≤ xs.length) : val (seconds l) = val ys := by
  have : seconds l = (List.range xs.length).map fun j => lb ys j := by
    have := congrArg (List.map Prod.snd) h
    simpa [seconds, pairsL, List.map_map, Function.comp_def] using this
  rw [this, range_lb _ _ hl]

/-- The limbs of a sum so far, and what is carried. -/
structure AddInv (pre : List P32) (o : List Nat) (c : Nat) : Prop where
  len : o.length = pre.length
  lt : ∀ x ∈ o, x < 4294967296
  carry : c ≤ 1
  val_eq : val o + c * 4294967296 ^ pre.length = val (firsts pre) + val (seconds pre)

theorem AddInv.start : AddInv [] [] 0 := ⟨rfl, by simp, by omega, by simp [firsts, seconds, val]⟩

theorem AddInv.step {pre : List P32} {o : List Nat} {c : Nat} (h : AddInv pre o c) (p : P32) :
    AddInv (pre ++ [p]) (o ++ [(p.1.1 + p.1.2 + c) % 4294967296]) ((p.1.1 + p.1.2 + c) / 4294967296) := by
  have h1 := p.2.1
  have h2 := p.2.2
  have h3 := h.carry
  refine ⟨by simp [h.len], snoc_lt h.lt (Nat.mod_lt _ (by decide)), by omega, ?_⟩
  have e1 : firsts (pre ++ [p]) = firsts pre ++ [p.1.1] := by simp [firsts]
  have e2 : seconds (pre ++ [p]) = seconds pre ++ [p.1.2] := by simp [seconds]
  have l1 : (firsts pre).length = pre.length := by simp [firsts]
  have l2 : (seconds pre).length = pre.length := by simp [seconds]
  rw [e1, e2, val_append, val_append, val_append, l1, l2, h.len]
  simp only [val, Nat.mul_zero, Nat.add_zero, List.length_append, List.length_singleton, Nat.pow_succ]
  have e := h.val_eq
  generalize 4294967296 ^ pre.length = B at *
  have e3 : (p.1.1 + p.1.2 + c) = (p.1.1 + p.1.2 + c) % 4294967296 + (p.1.1 + p.1.2 + c) / 4294967296 * 4294967296 := by omega
  have e4 : (p.1.1 + p.1.2 + c) * B = (p.1.1 + p.1.2 + c) % 4294967296 * B + (p.1.1 + p.1.2 + c) / 4294967296 * 4294967296 * B := by
    conv => lhs; rw [e3]
    rw [Nat.add_mul]
  rw [Nat.add_mul, Nat.add_mul] at e4
  have e5 : (p.1.1 + p.1.2 + c) / 4294967296 * (B * 4294967296) = (p.1.1 + p.1.2 + c) / 4294967296 * 4294967296 * B := by
    rw [Nat.mul_comm B 4294967296, ← Nat.mul_assoc]
  rw [e5, Nat.mul_comm B, Nat.mul_comm B, Nat.mul_comm B]
  omega

theorem AddInv.done {pre : List P32} {o : List Nat} {c : Nat} (h : AddInv pre o c) {xs ys : List Nat} (hp : pre.map (·.1) = pairsL xs ys xs.length) (hl : ys.length ≤ xs.length) :
    val (o ++ [c]) = val xs + val ys := by
  rw [val_append, ← firsts_all hp, ← seconds_all hp hl, ← h.val_eq, h.len]
  simp only [val, Nat.mul_zero, Nat.add_zero]
  rw [Nat.mul_comm c]

/-- The limbs of a difference so far, and what is borrowed. -/
structure SubInv (pre : List P32) (o : List Nat) (c : Nat) : Prop where
  len : o.length = pre.length
  lt : ∀ x ∈ o, x < 4294967296
  carry : c ≤ 1
  val_eq : val o + val (seconds pre) = val (firsts pre) + c * 4294967296 ^ pre.length

theorem SubInv.start : SubInv [] [] 0 := ⟨rfl, by simp, by omega, by simp [firsts, seconds, val]⟩

def subD (x y c : Nat) : Nat := (x + 4294967296 + 4294967296 - y - c) % 4294967296
def subC (x y c : Nat) : Nat := if x < y + c then 1 else 0

theorem sub_step (x y c : Nat) (h1 : x < 4294967296) (h2 : y < 4294967296) (h3 : c ≤ 1) : subD x y c + y + c = x + subC x y c * 4294967296 := by
  unfold subD subC
  split
  · rename_i h
    have e : (x + 4294967296 + 4294967296 - y - c) % 4294967296 = x + 4294967296 - y - c := by
      rw [show x + 4294967296 + 4294967296 - y - c = (x + 4294967296 - y - c) + 4294967296 by omega, Nat.add_mod_right, Nat.mod_eq_of_lt (by omega)]
    rw [e]; omega
  · rename_i h
    have e : (x + 4294967296 + 4294967296 - y - c) % 4294967296 = x - y - c := by
      rw [show x + 4294967296 + 4294967296 - y - c = (x - y - c) + 4294967296 + 4294967296 by omega, Nat.add_mod_right, Nat.add_mod_right, Nat.mod_eq_of_lt (by omega)]
    rw [e]; omega

theorem subD_lt (x y c : Nat) : subD x y c < 4294967296 := by
  unfold subD
  exact Nat.mod_lt _ (by decide)
theorem subC_le (x y c : Nat) : subC x y c ≤ 1 := by unfold subC; split <;> omega

theorem val_one (x : Nat) : val [x] = x := rfl
theorem SubInv.step {pre : List P32} {o : List Nat} {c : Nat} (h : SubInv pre o c) (p : P32) :
    SubInv (pre ++ [p]) (o ++ [subD p.1.1 p.1.2 c]) (subC p.1.1 p.1.2 c) := by
  have h1 := p.2.1
  have h2 := p.2.2
  have h3 := h.carry
  have hs := sub_step p.1.1 p.1.2 c h1 h2 h3
  have k1 := subD_lt p.1.1 p.1.2 c
  have k2 := subC_le p.1.1 p.1.2 c
  generalize subD p.1.1 p.1.2 c = d at *
  generalize subC p.1.1 p.1.2 c = f at *
  refine ⟨by simp [h.len], snoc_lt h.lt k1, k2, ?_⟩
  have e1 : firsts (pre ++ [p]) = firsts pre ++ [p.1.1] := by simp [firsts]
  have e2 : seconds (pre ++ [p]) = seconds pre ++ [p.1.2] := by simp [seconds]
  have l1 : (firsts pre).length = pre.length := by simp [firsts]
  have l2 : (seconds pre).length = pre.length := by simp [seconds]
  rw [e1, e2, val_append, val_append, val_append, l1, l2, h.len, val_one, val_one, val_one, List.length_append, List.length_singleton, Nat.pow_succ]
  have e := h.val_eq
  generalize 4294967296 ^ pre.length = B at *
  have e4 : (d + p.1.2 + c) * B = (p.1.1 + f * 4294967296) * B := by rw [hs]
  rw [Nat.add_mul, Nat.add_mul, Nat.add_mul] at e4
  have e5 : f * (B * 4294967296) = f * 4294967296 * B := by
    rw [Nat.mul_comm B 4294967296, ← Nat.mul_assoc]
  rw [e5, Nat.mul_comm B, Nat.mul_comm B, Nat.mul_comm B]
  omega

theorem SubInv.done {pre : List P32} {o : List Nat} {c : Nat} (h : SubInv pre o c) {xs ys : List Nat} (hp : pre.map (·.1) = pairsL xs ys xs.length) (hl : ys.length ≤ xs.length) (hge : val ys ≤ val xs) :
    val o = val xs - val ys := by
  have e := h.val_eq
  rw [firsts_all hp, seconds_all hp hl] at e
  have hlt := val_lt o h.lt
  rw [h.len] at hlt
  have hc := h.carry
  generalize 4294967296 ^ pre.length = B at *
  have : c = 0 ∨ c = 1 := by omega
  rcases this with rfl | rfl <;> omega
end Go.Proofs.YtbdmncpibnligaaGreatDoor
/- The closures of nat.Add and nat.Sub. -/
namespace Go.Proofs.YtbdmncpibnligaaGreatDoor
open Go.RowKit Go.Shelf
set_option linter.unusedVariables false
set_option maxHeartbeats 400000
set_option maxRecDepth 100000

theorem add32_calls (w : World) (x y c : Nat) (hx : x < 4294967296) (hy : y < 4294967296) (hc : c ≤ 1) :
    Calls Tryz.prog 78 #[.int .u32 x, .int .u32 y, .int .u32 c] w fun e w' => e = .returned (.tuple #[.int .u32 ((x + y + c) % 4294967296 : Nat), .int .u32 ((x + y + c) / 4294967296 : Nat)]) ∧ w = w' := by
  have h1 : ((x : Nat) : Int) < 4294967296 := by omega
  have h2 : ((y : Nat) : Int) < 4294967296 := by omega
  have h3 : ((c : Nat) : Int) ≤ 1 := by omega
  clear hx hy hc
  go_enter Tryz.func78, Tryz.ntmps78
  go_wp2
  go_ret2
  exact ⟨by rw [Int.natCast_emod, Int.natCast_ediv, Int.natCast_add, Int.natCast_add]; rfl, rfl⟩

theorem top_bit (n : Nat) (h : n < 4294967296) : n / 2147483648 = if n.testBit 31 then 1 else 0 := by
  have e : n.testBit 31 = decide (2147483648 ≤ n) := by
    rw [Nat.testBit_eq_decide_div_mod_eq]
    have h2 : n / 2 ^ 31 < 2 := by rw [Nat.div_lt_iff_lt_mul (by decide)]; exact h
    rw [Nat.mod_eq_of_lt h2, Bool.eq_iff_iff, decide_eq_true_iff, decide_eq_true_iff]
    simp only [Nat.reducePow]
    constructor <;> intro g <;> omega
  rw [e]
  by_cases hn : 2147483648 ≤ n
  · rw [decide_eq_true hn, if_pos rfl]; omega
  · rw [decide_eq_false hn, if_neg (by decide)]; omega

theorem test31 (n : Nat) (h : n < 4294967296) : n.testBit 31 = decide (2147483648 ≤ n) := by
  rw [Nat.testBit_eq_decide_div_mod_eq]
  have h2 : n / 2 ^ 31 < 2 := by rw [Nat.div_lt_iff_lt_mul (by decide)]; exact h
  rw [Nat.mod_eq_of_lt h2, Bool.eq_iff_iff, decide_eq_true_iff, decide_eq_true_iff]
  simp only [Nat.reducePow]
  constructor <;> intro g <;> omega

theorem borrow_nat (x y c : Nat) (hx : x < 4294967296) (hy : y < 4294967296) (hc : c ≤ 1) :
    (((4294967295 ^^^ x) &&& y) ||| ((4294967295 ^^^ (x ^^^ y)) &&& subD x y c)) / 2147483648 = subC x y c := by
  have hd := subD_lt x y c
  have hs := sub_step x y c hx hy hc
  have p32 : (4294967296 : Nat) = 2 ^ 32 := rfl
  have b1 : ((4294967295 ^^^ x) &&& y) < 4294967296 := Nat.lt_of_le_of_lt Nat.and_le_right hy
  have b2 : ((4294967295 ^^^ (x ^^^ y)) &&& subD x y c) < 4294967296 := Nat.lt_of_le_of_lt Nat.and_le_right hd
  have b3 : (((4294967295 ^^^ x) &&& y) ||| ((4294967295 ^^^ (x ^^^ y)) &&& subD x y c)) < 4294967296 := by
    rw [p32] at b1 b2 ⊢; exact Nat.or_lt_two_pow b1 b2
  rw [top_bit _ b3]
  have hc2 := subC_le x y c
  have t : (4294967295 : Nat).testBit 31 = true := by decide
  rw [Nat.testBit_or, Nat.testBit_and, Nat.testBit_and, Nat.testBit_xor, Nat.testBit_xor, Nat.testBit_xor, t, test31 x hx, test31 y hy, test31 _ hd]
  generalize subD x y c = d at *
  have hC : subC x y c = 0 ∧ y + c ≤ x ∨ subC x y c = 1 ∧ x < y + c := by
    unfold subC
    split
    · right; omega
    · left; omega
  generalize subC x y c = f at *
  by_cases g1 : 2147483648 ≤ x <;> by_cases g2 : 2147483648 ≤ y <;> by_cases g3 : 2147483648 ≤ d <;> simp [g1, g2, g3] <;> omega

theorem sub_cast (x y c : Nat) (hx : x < 4294967296) (hy : y < 4294967296) (hc : c ≤ 1) : (((x : Nat) : Int) - (y : Nat) - (c : Nat)) % 4294967296 = ((subD x y c : Nat) : Int) := by
  have hs := sub_step x y c hx hy hc
  have hd := subD_lt x y c
  have hc2 := subC_le x y c
  generalize subD x y c = d at *
  generalize subC x y c = f at *
  omega

theorem borrow_cast (x y c : Nat) (hx : x < 4294967296) (hy : y < 4294967296) (hc : c ≤ 1) :
    bits .or .u32 (bits .and .u32 (bits .xor .u32 IntKind.u32.max ((x : Nat) : Int)) ((y : Nat) : Int)) (bits .and .u32 (bits .xor .u32 IntKind.u32.max (bits .xor .u32 ((x : Nat) : Int) ((y : Nat) : Int))) ((((x : Nat) : Int) - (y : Nat) - (c : Nat)) % 4294967296)) / 2147483648 = ((subC x y c : Nat) : Int) := by
  have hd := subD_lt x y c
  have p32 : (4294967296 : Nat) = 2 ^ 32 := rfl
  have b0 : (x ^^^ y) < 4294967296 := by rw [p32] at hx hy ⊢; exact Nat.xor_lt_two_pow hx hy
  have b4 : (4294967295 ^^^ x) < 4294967296 := by rw [p32] at hx ⊢; exact Nat.xor_lt_two_pow (by decide) hx
  have b5 : (4294967295 ^^^ (x ^^^ y)) < 4294967296 := by rw [p32] at b0 ⊢; exact Nat.xor_lt_two_pow (by decide) b0
  have b1 : ((4294967295 ^^^ x) &&& y) < 4294967296 := Nat.lt_of_le_of_lt Nat.and_le_right hy
  have b2 : ((4294967295 ^^^ (x ^^^ y)) &&& subD x y c) < 4294967296 := Nat.lt_of_le_of_lt Nat.and_le_right hd
  have em : IntKind.u32.max = ((4294967295 : Nat) : Int) := by decide
  rw [sub_cast x y c hx hy hc, em, u32_xor_nat _ _ (by decide) hx, u32_and_nat _ _ b4 hy, u32_xor_nat _ _ hx hy, u32_xor_nat _ _ (by decide) b0, u32_and_nat _ _ b5 hd, u32_or_nat _ _ b1 b2, ← borrow_nat x y c hx hy hc, Int.natCast_ediv]
  rfl

theorem sub32_calls (w : World) (x y c : Nat) (hx : x < 4294967296) (hy : y < 4294967296) (hc : c ≤ 1) :
    Calls Tryz.prog 113 #[.int .u32 x, .int .u32 y, .int .u32 c] w fun e w' => e = .returned (.tuple #[.int .u32 (subD x y c : Nat), .int .u32 (subC x y c : Nat)]) ∧ w = w' := by
  have H1 := Lib.hid (sub_cast x y c hx hy hc)
  have H2 := Lib.hid (borrow_cast x y c hx hy hc)
  clear hx hy hc
  go_enter Tryz.func113, Tryz.ntmps113
  go_wp2
  go_ret2
  exact ⟨by rw [← H1.out, ← H2.out]; rfl, rfl⟩

theorem adder1_calls (w : World) (x y c b : Nat) (hx : x < 4294967296) (hy : y < 4294967296) (hc : c ≤ 1) (hcell : w.cell? ⟨b, 0, none⟩ = some (.int .u32 c)) (hf : w.frozen? ⟨b, 0, none⟩ = false) :
    Calls Tryz.prog 77 #[.int .u32 x, .int .u32 y, .pointer (some ⟨b, 0, none⟩)] w fun e w' => e = .returned (.int .u32 ((x + y + c) % 4294967296 : Nat)) ∧ w' = w.setCell ⟨b, 0, none⟩ (.int .u32 ((x + y + c) / 4294967296 : Nat)) := by
  have H1 := Lib.hid hx
  have H2 := Lib.hid hy
  have H3 := Lib.hid hc
  clear hx hy hc
  go_enter Tryz.func77, Tryz.ntmps77
  go_wp2_with (go_at_call 78; refine (add32_calls _ x y c H1.out H2.out H3.out).mono ?_; rintro e w' ⟨rfl, rfl⟩)
  go_ret
  exact ⟨by rw [Int.natCast_emod, Int.natCast_add, Int.natCast_add]; rfl, by rw [Int.natCast_ediv, Int.natCast_add, Int.natCast_add]; rfl⟩

theorem taker1_calls (w : World) (x y c b : Nat) (hx : x < 4294967296) (hy : y < 4294967296) (hc : c ≤ 1) (hcell : w.cell? ⟨b, 0, none⟩ = some (.int .u32 c)) (hf : w.frozen? ⟨b, 0, none⟩ = false) :
    Calls Tryz.prog 112 #[.int .u32 x, .int .u32 y, .pointer (some ⟨b, 0, none⟩)] w fun e w' => e = .returned (.int .u32 (subD x y c : Nat)) ∧ w' = w.setCell ⟨b, 0, none⟩ (.int .u32 (subC x y c : Nat)) := by
  have H1 := Lib.hid hx
  have H2 := Lib.hid hy
  have H3 := Lib.hid hc
  clear hx hy hc
  go_enter Tryz.func112, Tryz.ntmps112
  go_wp2_with (go_at_call 113; refine (sub32_calls _ x y c H1.out H2.out H3.out).mono ?_; rintro e w' ⟨rfl, rfl⟩)
  go_ret
  exact ⟨rfl, rfl⟩

theorem adder_calls (w : World) : Calls Tryz.prog 60 #[] w fun e w' => e = .returned (.func (.func 77) #[] #[.pointer (some ⟨w.heap.size, 0, none⟩)]) ∧ w' = w.alloc (.cells #[.int .u32 0] 36) := by
  go_enter Tryz.func60, Tryz.ntmps60
  go_wp2
  go_ret
  exact ⟨rfl, rfl⟩
theorem taker_calls (w : World) : Calls Tryz.prog 99 #[] w fun e w' => e = .returned (.func (.func 112) #[] #[.pointer (some ⟨w.heap.size, 0, none⟩)]) ∧ w' = w.alloc (.cells #[.int .u32 0] 36) := by
  go_enter Tryz.func99, Tryz.ntmps99
  go_wp2
  go_ret
  exact ⟨rfl, rfl⟩
theorem pairs_calls (w : World) (a b : Option Addr) (l l' c c' : Nat) :
    Calls Tryz.prog 61 #[.slice a l c, .slice b l' c'] w fun e w' => e = .returned (.func (.func 79) #[] #[.pointer (some ⟨w.heap.size + 1, 0, none⟩), .pointer (some ⟨w.heap.size, 0, none⟩)]) ∧ w' = (w.alloc (.cells #[.slice a l c] 22)).alloc (.cells #[.slice b l' c'] 22) := by
  go_enter Tryz.func61, Tryz.ntmps61
  go_wp2
  go_ret
  exact ⟨rfl, rfl⟩
end Go.Proofs.YtbdmncpibnligaaGreatDoor
/- The iterator of nat.Add and nat.Sub: limbs place by place. -/
namespace Go.Proofs.YtbdmncpibnligaaGreatDoor
open Go.RowKit Go.Shelf
set_option linter.unusedVariables false
attribute [local go_sem] Oper.semAt_some

abbrev encP (p : P32) : Array Value := #[.int .u32 (p.1.1 : Int), .int .u32 (p.1.2 : Int)]

def mkP {xs ys : List Nat} (hx : ∀ x ∈ xs, x < 4294967296) (hy : ∀ x ∈ ys, x < 4294967296) (j : Nat) : P32 := ⟨(lb xs j, lb ys j), lb_lt hx j, lb_lt hy j⟩

/-- What a round keeps: whatever lay below n₀, and two boxes. -/
structure KpP (n₀ Ba Bb : Nat) (W W' : World) : Prop where
  bel : Below n₀ W W'
  ba : W'.heap[Ba]? = W.heap[Ba]?
  bb : W'.heap[Bb]? = W.heap[Bb]?
theorem KpP.refl (n₀ Ba Bb : Nat) (W : World) : KpP n₀ Ba Bb W W := ⟨Below.refl _ _, rfl, rfl⟩
theorem KpP.trans {n₀ Ba Bb : Nat} {A B C : World} (h : KpP n₀ Ba Bb A B) (k : KpP n₀ Ba Bb B C) : KpP n₀ Ba Bb A C := ⟨h.bel.trans k.bel, k.ba.trans h.ba, k.bb.trans h.bb⟩
theorem kpP_b {n₀ Ba Bb : Nat} {w : World} (hn : n₀ ≤ w.heap.size) (ha : Ba < w.heap.size) (hb : Bb < w.heap.size) (W : World) (l : Nat) (o o' : Obj) (hl : w.heap.size ≤ l) (h : W.heap[l]? = some o) (h1 : o.isCells = false) (h2 : o.isWalk = false) : KpP n₀ Ba Bb W (W.putObj l o') := by
  have hg := grownBy_putObj' W l o'
  have hlt := (Array.getElem?_eq_some_iff.1 h).1
  exact ⟨belowK_b hn W l o o' hl h h1 h2, hg.block Ba (by omega) (fun e => by injection e with e; omega), hg.block Bb (by omega) (fun e => by injection e with e; omega)⟩

set_option maxRecDepth 100000 in
set_option maxHeartbeats 4000000 in
theorem pairs1_in (l Ba Bb : Nat) (A A2 : Option Addr) (c c2 : Nat) (xs ys : List Nat) (hle : ys.length ≤ xs.length) (n₀ : Nat) (W : World)
    (hUa : U W (.slice A xs.length c) xs) (hUb : U W (.slice A2 ys.length c2) ys) (hba : ∀ ad, A = some ad → 0 < xs.length → ad.block < n₀) (hbb : ∀ ad, A2 = some ad → 0 < ys.length → ad.block < n₀) (J Jx : List P32 → World → Prop)
    (hY : ∀ pre x W, J pre W → pre.length < xs.length → YieldAt Fence.wide 2 Tryz.prog l (encP x) W fun e W' =>
      (e = .returned (.bool true) ∧ J (pre ++ [x]) W' ∧ KpP n₀ Ba Bb W W') ∨ (e = .returned (.bool false) ∧ Jx (pre ++ [x]) W'))
    (hca : W.cell? ⟨Ba, 0, none⟩ = some (.slice A xs.length c)) (hcb : W.cell? ⟨Bb, 0, none⟩ = some (.slice A2 ys.length c2)) (h0 : J [] W) :
    CallsIn Fence.wide 3 Tryz.prog 79 #[.func (.yield l) #[] #[], .pointer (some ⟨Bb, 0, none⟩), .pointer (some ⟨Ba, 0, none⟩)] W fun e W' => (∃ v, e = .returned v) ∧
      ((∃ l, l.map (·.1) = pairsL xs ys xs.length ∧ J l W') ∨ (∃ pre, True ∧ Jx pre W')) := by
  obtain ⟨_, _, hva, ⟨h1, h2⟩, hx, hr⟩ := hUa
  injection hva with e1 _ e3
  subst e1 e3
  obtain ⟨_, _, hvb, ⟨h3, h4⟩, hy, hr2⟩ := hUb
  injection hvb with e1 _ e3
  subst e1 e3
  refine callsIn_of_wp Tryz.func79 rfl trivial ?_ rfl
  simp only [Tryz.ntmps79, List.size_toArray, List.length_cons, List.length_nil, Nat.reduceAdd, Nat.reduceSub, Array.replicate_succ, Array.replicate_zero, List.push_toArray, List.append_toArray, List.nil_append, List.cons_append]
  gi_wp2
  gi_loopw [10] (fun i wr => ∃ (k : Nat) (pre : List P32), k ≤ ys.length ∧ i = .int .i64 (k : Int) ∧ Hid (pre.map (·.1) = pairsL xs ys k) ∧ J pre wr ∧ KpP n₀ Ba Bb W wr)
    (fun i _ => ys.length - (intOf i).toNat)
  case atStart => exact ⟨0, [], Nat.zero_le _, rfl, rfl, h0, KpP.refl _ _ _ _⟩
  case round =>
    obtain ⟨k, pre, hk, rfl, hp, hJs, hnx⟩ := hrel
    have hca' := (World.cell?_of_block (w := W) (a := ⟨Ba, 0, none⟩) hnx.ba).trans hca
    have hcb' := (World.cell?_of_block (w := W) (a := ⟨Bb, 0, none⟩) hnx.bb).trans hcb
    by_cases hlt : k < ys.length
    · obtain ⟨ad, rfl, hb, hcell⟩ := hr (by omega)
      obtain ⟨ad2, rfl, hb2, hcell2⟩ := hr2 (by omega)
      have hc1 := (hnx.bel.cell (p := ad.add k) (by rw [addr_add_block]; exact hba ad rfl (by omega))).trans (hcell k (by omega))
      have hc2 := (hnx.bel.cell (p := ad2.add k) (by rw [addr_add_block]; exact hbb ad2 rfl (by omega))).trans (hcell2 k hlt)
      have hpl : pre.length = k := by have := congrArg List.length hp.out; simpa [pairsL] using this
      obtain ⟨fn, tmps, assign, body, hy1, hR⟩ := hY pre (mkP hx hy k) wr hJs (by omega)
      dsimp only [encP, mkP] at hy1
      have HP := Lib.hid hpl
      have hkx : ((k : Nat) : Int) < xs.length := by omega
      clear hpl
      gi_wp2
      refine hR.mono ?_
      rintro e W3 (⟨rfl, hJ3, hk3⟩ | ⟨rfl, hJx3⟩)
      · gi_wp2
        go_roundw
        case rel => exact ⟨k + 1, _, by omega, by go_num, by rw [Hid, List.map_append, hp.out, pairsL_succ]; rfl, hJ3, hnx.trans hk3⟩
        case measure => simp [intOf]; omega
      · gi_wp2
        refine bodyPost_ret (results_none rfl _ _ _) rfl ?_
        exact ⟨⟨_, rfl⟩, .inr ⟨_, trivial, hJx3⟩⟩
    · obtain rfl : k = ys.length := by omega
      rcases Nat.lt_or_ge ys.length xs.length with hl2 | hl2
      · obtain ⟨ad, rfl, hb, hcell⟩ := hr (by omega)
        have hcne : ¬ c = ys.length := by omega
        gi_wp2
        gi_loopw [29] (fun i wr => ∃ (k : Nat) (pre : List P32), k ≤ xs.length - ys.length ∧ i = .int .i64 (k : Int) ∧ Hid (pre.map (·.1) = pairsL xs ys (ys.length + k)) ∧ J pre wr ∧ KpP n₀ Ba Bb W wr)
          (fun i _ => xs.length - ys.length - (intOf i).toNat)
        case atStart => exact ⟨0, pre, Nat.zero_le _, rfl, hp, hJs, hnx⟩
        case round =>
          clear hp hJs hnx hca' hcb' pre
          obtain ⟨k, pre, hk, rfl, hp, hJs, hnx⟩ := hrel
          by_cases hlt : k < xs.length - ys.length
          · have hc1 : wr.cell? ((ad.add ys.length).add k) = some (.int .u32 ((lb xs (ys.length + k) : Nat) : Int)) := by
              rw [addr_add_add]
              exact (hnx.bel.cell (p := ad.add (ys.length + k)) (by rw [addr_add_block]; exact hba ad rfl (by omega))).trans (hcell _ (by omega))
            have hpl : pre.length = ys.length + k := by have := congrArg List.length hp.out; simpa [pairsL] using this
            obtain ⟨fn, tmps, assign, body, hy1, hR⟩ := hY pre (mkP hx hy (ys.length + k)) wr hJs (by omega)
            dsimp only [encP, mkP] at hy1
            rw [lb_out (show ys.length ≤ ys.length + k by omega), show (((0 : Nat)) : Int) = 0 from rfl] at hy1
            have HP := Lib.hid hpl
            clear hpl
            by_cases hk0 : k = 0
            · subst hk0
              rw [addr_add_zero, Nat.add_zero] at hc1
              rw [Nat.add_zero] at hy1
              gi_wp2
              refine hR.mono ?_
              rintro e W3 (⟨rfl, hJ3, hk3⟩ | ⟨rfl, hJx3⟩)
              · gi_wp2
                go_roundw
                case rel => exact ⟨1, _, by omega, by go_num, by rw [Hid, List.map_append, hp.out, pairsL_succ]; rfl, hJ3, hnx.trans hk3⟩
                case measure => simp [intOf]; omega
              · gi_wp2
                refine bodyPost_ret (results_none rfl _ _ _) rfl ?_
                exact ⟨⟨_, rfl⟩, .inr ⟨_, trivial, hJx3⟩⟩
            · gi_wp2
              refine hR.mono ?_
              rintro e W3 (⟨rfl, hJ3, hk3⟩ | ⟨rfl, hJx3⟩)
              · gi_wp2
                go_roundw
                case rel => exact ⟨k + 1, _, by omega, by go_num, by rw [Hid, List.map_append, hp.out, ← Nat.add_assoc, pairsL_succ]; rfl, hJ3, hnx.trans hk3⟩
                case measure => simp [intOf]; omega
              · gi_wp2
                refine bodyPost_ret (results_none rfl _ _ _) rfl ?_
                exact ⟨⟨_, rfl⟩, .inr ⟨_, trivial, hJx3⟩⟩
          · have HP : Hid (pre.map (·.1) = pairsL xs ys xs.length) := by rw [Hid, hp.out, show ys.length + k = xs.length by omega]
            gi_wp2
            go_end0
            exact ⟨⟨_, rfl⟩, .inl ⟨_, HP.out, hJs⟩⟩
      · have HP : Hid (pre.map (·.1) = pairsL xs ys xs.length) := by rw [Hid, hp.out, show ys.length = xs.length by omega]
        have hz : xs.length - ys.length = 0 := by omega
        have hxy : xs.length = ys.length := by omega
        have HJ := Lib.hid hJs
        clear hJs hp
        rw [hxy] at hca'
        clear hxy hz
        gi_wp2
        all_goals
          gi_loopw [29] (fun i wr => i = .int .i64 0 ∧ J pre wr) (fun _ _ => 0)
          case atStart => exact ⟨rfl, HJ.out⟩
          case round =>
            obtain ⟨rfl, hJs⟩ := hrel
            gi_wp2
            go_end0
            exact ⟨⟨_, rfl⟩, .inl ⟨_, HP.out, hJs⟩⟩

/-- Its contract: the limbs of both rows, place by place, as many as the first one has. -/
theorem pairs_stops (Ba Bb : Nat) (v u : Value) (xs ys : List Nat) (w0 w : World) (hB : Below w0.heap.size w0 w) (hle : ys.length ≤ xs.length) (hBa : Ba < w.heap.size) (hBb : Bb < w.heap.size)
    (hca : Boxed w Ba 22 v) (hcb : Boxed w Bb 22 u) (hU : U w0 v xs) (hV : U w0 u ys) :
    SeqStopsK Fence.wide 3 Tryz.prog 79 #[.pointer (some ⟨Bb, 0, none⟩), .pointer (some ⟨Ba, 0, none⟩)] encP (KpP w0.heap.size Ba Bb) (fun l => l.map (·.1) = pairsL xs ys xs.length)
      (fun pre => True) xs.length w := fun l J Jx W hW _ _ hY h0 => by
  obtain ⟨A, c, rfl, h1, hx, hr⟩ := id hU
  obtain ⟨A2, c2, rfl, h2, hy, hr2⟩ := id hV
  have hW' := hB.trans (hW.mono hB.size)
  exact pairs1_in l Ba Bb A A2 c c2 xs ys hle w0.heap.size W (hU.below hW') (hV.below hW')
    (fun ad e h0 => by obtain ⟨ad', e', hb, _⟩ := hr h0; rw [e] at e'; injection e' with e'; subst e'; exact hb)
    (fun ad e h0 => by obtain ⟨ad', e', hb, _⟩ := hr2 h0; rw [e] at e'; injection e' with e'; subst e'; exact hb) J Jx hY
    ((hW.cell (p := ⟨Ba, 0, none⟩) hBa).trans hca.cell) ((hW.cell (p := ⟨Bb, 0, none⟩) hBb).trans hcb.cell) h0
end Go.Proofs.YtbdmncpibnligaaGreatDoor
