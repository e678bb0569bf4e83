/- The closures of nat.Add and nat.Sub. -/
import Derived.Test.YtnjkdplhoihkiaaC2
import Derived.Test.YtnjkdplhoihkiaaA0
namespace Go.Proofs.Ytnjkdplhoihkiaa
open Go.RowKit Go.Shelf
set_option linter.unusedVariables false
set_option maxHeartbeats 400000

theorem add32_calls (w : World) (x y c : Nat) (hx : x < 4294967296) (hy : y < 4294967296) (hc : c ≤ 1) :
    Calls Try.prog 48 #[.int .u32 x, .int .u32 y, .int .u32 c] w fun e w' => e = .returned (.tuple #[.int .u32 ((x + y + c) % 4294967296 : Nat), .int .u32 ((x + y + c) / 4294967296 : Nat)]) ∧ w = w' := by
  have h1 : ((x : Nat) : Int) < 4294967296 := by omega
  have h2 : ((y : Nat) : Int) < 4294967296 := by omega
  have h3 : ((c : Nat) : Int) ≤ 1 := by omega
  clear hx hy hc
  go_enter Try.func48, Try.ntmps48
  go_wp2
  go_ret2
  exact ⟨by rw [Int.natCast_emod, Int.natCast_ediv, Int.natCast_add, Int.natCast_add]; rfl, rfl⟩

theorem top_bit (n : Nat) (h : n < 4294967296) : n / 2147483648 = if n.testBit 31 then 1 else 0 := by
  have e : n.testBit 31 = decide (2147483648 ≤ n) := by
    rw [Nat.testBit_eq_decide_div_mod_eq]
    have h2 : n / 2 ^ 31 < 2 := by rw [Nat.div_lt_iff_lt_mul (by decide)]; exact h
    rw [Nat.mod_eq_of_lt h2, Bool.eq_iff_iff, decide_eq_true_iff, decide_eq_true_iff]
    simp only [Nat.reducePow]
    constructor <;> intro g <;> omega
  rw [e]
  by_cases hn : 2147483648 ≤ n
  · rw [decide_eq_true hn, if_pos rfl]; omega
  · rw [decide_eq_false hn, if_neg (by decide)]; omega

theorem test31 (n : Nat) (h : n < 4294967296) : n.testBit 31 = decide (2147483648 ≤ n) := by
  rw [Nat.testBit_eq_decide_div_mod_eq]
  have h2 : n / 2 ^ 31 < 2 := by rw [Nat.div_lt_iff_lt_mul (by decide)]; exact h
  rw [Nat.mod_eq_of_lt h2, Bool.eq_iff_iff, decide_eq_true_iff, decide_eq_true_iff]
  simp only [Nat.reducePow]
  constructor <;> intro g <;> omega

theorem borrow_nat (x y c : Nat) (hx : x < 4294967296) (hy : y < 4294967296) (hc : c ≤ 1) :
    (((4294967295 ^^^ x) &&& y) ||| ((4294967295 ^^^ (x ^^^ y)) &&& subD x y c)) / 2147483648 = subC x y c := by
  have hd := subD_lt x y c
  have hs := sub_step x y c hx hy hc
  have p32 : (4294967296 : Nat) = 2 ^ 32 := rfl
  have b1 : ((4294967295 ^^^ x) &&& y) < 4294967296 := Nat.lt_of_le_of_lt Nat.and_le_right hy
  have b2 : ((4294967295 ^^^ (x ^^^ y)) &&& subD x y c) < 4294967296 := Nat.lt_of_le_of_lt Nat.and_le_right hd
  have b3 : (((4294967295 ^^^ x) &&& y) ||| ((4294967295 ^^^ (x ^^^ y)) &&& subD x y c)) < 4294967296 := by
    rw [p32] at b1 b2 ⊢; exact Nat.or_lt_two_pow b1 b2
  rw [top_bit _ b3]
  have hc2 := subC_le x y c
  have t : (4294967295 : Nat).testBit 31 = true := by decide
  rw [Nat.testBit_or, Nat.testBit_and, Nat.testBit_and, Nat.testBit_xor, Nat.testBit_xor, Nat.testBit_xor, t, test31 x hx, test31 y hy, test31 _ hd]
  generalize subD x y c = d at *
  have hC : subC x y c = 0 ∧ y + c ≤ x ∨ subC x y c = 1 ∧ x < y + c := by
    unfold subC
    split
    · right; omega
    · left; omega
  generalize subC x y c = f at *
  by_cases g1 : 2147483648 ≤ x <;> by_cases g2 : 2147483648 ≤ y <;> by_cases g3 : 2147483648 ≤ d <;> simp [g1, g2, g3] <;> omega

theorem sub_cast (x y c : Nat) (hx : x < 4294967296) (hy : y < 4294967296) (hc : c ≤ 1) : (((x : Nat) : Int) - (y : Nat) - (c : Nat)) % 4294967296 = ((subD x y c : Nat) : Int) := by
  have hs := sub_step x y c hx hy hc
  have hd := subD_lt x y c
  have hc2 := subC_le x y c
  generalize subD x y c = d at *
  generalize subC x y c = f at *
  omega

theorem borrow_cast (x y c : Nat) (hx : x < 4294967296) (hy : y < 4294967296) (hc : c ≤ 1) :
    bits .or .u32 (bits .and .u32 (bits .xor .u32 IntKind.u32.max ((x : Nat) : Int)) ((y : Nat) : Int)) (bits .and .u32 (bits .xor .u32 IntKind.u32.max (bits .xor .u32 ((x : Nat) : Int) ((y : Nat) : Int))) ((((x : Nat) : Int) - (y : Nat) - (c : Nat)) % 4294967296)) / 2147483648 = ((subC x y c : Nat) : Int) := by
  have hd := subD_lt x y c
  have p32 : (4294967296 : Nat) = 2 ^ 32 := rfl
  have b0 : (x ^^^ y) < 4294967296 := by rw [p32] at hx hy ⊢; exact Nat.xor_lt_two_pow hx hy
  have b4 : (4294967295 ^^^ x) < 4294967296 := by rw [p32] at hx ⊢; exact Nat.xor_lt_two_pow (by decide) hx
  have b5 : (4294967295 ^^^ (x ^^^ y)) < 4294967296 := by rw [p32] at b0 ⊢; exact Nat.xor_lt_two_pow (by decide) b0
  have b1 : ((4294967295 ^^^ x) &&& y) < 4294967296 := Nat.lt_of_le_of_lt Nat.and_le_right hy
  have b2 : ((4294967295 ^^^ (x ^^^ y)) &&& subD x y c) < 4294967296 := Nat.lt_of_le_of_lt Nat.and_le_right hd
  have em : IntKind.u32.max = ((4294967295 : Nat) : Int) := by decide
  rw [sub_cast x y c hx hy hc, em, u32_xor_nat _ _ (by decide) hx, u32_and_nat _ _ b4 hy, u32_xor_nat _ _ hx hy, u32_xor_nat _ _ (by decide) b0, u32_and_nat _ _ b5 hd, u32_or_nat _ _ b1 b2, ← borrow_nat x y c hx hy hc, Int.natCast_ediv]
  rfl

theorem sub32_calls (w : World) (x y c : Nat) (hx : x < 4294967296) (hy : y < 4294967296) (hc : c ≤ 1) :
    Calls Try.prog 45 #[.int .u32 x, .int .u32 y, .int .u32 c] w fun e w' => e = .returned (.tuple #[.int .u32 (subD x y c : Nat), .int .u32 (subC x y c : Nat)]) ∧ w = w' := by
  have H1 := Lib.hid (sub_cast x y c hx hy hc)
  have H2 := Lib.hid (borrow_cast x y c hx hy hc)
  clear hx hy hc
  go_enter Try.func45, Try.ntmps45
  go_wp2
  go_ret2
  exact ⟨by rw [← H1.out, ← H2.out]; rfl, rfl⟩

theorem adder1_calls (w : World) (x y c b : Nat) (hx : x < 4294967296) (hy : y < 4294967296) (hc : c ≤ 1) (hcell : w.cell? ⟨b, 0, none⟩ = some (.int .u32 c)) (hf : w.frozen? ⟨b, 0, none⟩ = false) :
    Calls Try.prog 47 #[.int .u32 x, .int .u32 y, .pointer (some ⟨b, 0, none⟩)] w fun e w' => e = .returned (.int .u32 ((x + y + c) % 4294967296 : Nat)) ∧ w' = w.setCell ⟨b, 0, none⟩ (.int .u32 ((x + y + c) / 4294967296 : Nat)) := by
  have H1 := Lib.hid hx
  have H2 := Lib.hid hy
  have H3 := Lib.hid hc
  clear hx hy hc
  go_enter Try.func47, Try.ntmps47
  go_wp2_with (go_at_call 48; refine (add32_calls _ x y c H1.out H2.out H3.out).mono ?_; rintro e w' ⟨rfl, rfl⟩)
  go_ret
  exact ⟨by rw [Int.natCast_emod, Int.natCast_add, Int.natCast_add]; rfl, by rw [Int.natCast_ediv, Int.natCast_add, Int.natCast_add]; rfl⟩

theorem taker1_calls (w : World) (x y c b : Nat) (hx : x < 4294967296) (hy : y < 4294967296) (hc : c ≤ 1) (hcell : w.cell? ⟨b, 0, none⟩ = some (.int .u32 c)) (hf : w.frozen? ⟨b, 0, none⟩ = false) :
    Calls Try.prog 44 #[.int .u32 x, .int .u32 y, .pointer (some ⟨b, 0, none⟩)] w fun e w' => e = .returned (.int .u32 (subD x y c : Nat)) ∧ w' = w.setCell ⟨b, 0, none⟩ (.int .u32 (subC x y c : Nat)) := by
  have H1 := Lib.hid hx
  have H2 := Lib.hid hy
  have H3 := Lib.hid hc
  clear hx hy hc
  go_enter Try.func44, Try.ntmps44
  go_wp2_with (go_at_call 45; refine (sub32_calls _ x y c H1.out H2.out H3.out).mono ?_; rintro e w' ⟨rfl, rfl⟩)
  go_ret
  exact ⟨rfl, rfl⟩

theorem adder_calls (w : World) : Calls Try.prog 39 #[] w fun e w' => e = .returned (.func (.func 47) #[] #[.pointer (some ⟨w.heap.size, 0, none⟩)]) ∧ w' = w.alloc (.cells #[.int .u32 0] 37) := by
  go_enter Try.func39, Try.ntmps39
  go_wp2
  go_ret
  exact ⟨rfl, rfl⟩
theorem taker_calls (w : World) : Calls Try.prog 36 #[] w fun e w' => e = .returned (.func (.func 44) #[] #[.pointer (some ⟨w.heap.size, 0, none⟩)]) ∧ w' = w.alloc (.cells #[.int .u32 0] 37) := by
  go_enter Try.func36, Try.ntmps36
  go_wp2
  go_ret
  exact ⟨rfl, rfl⟩
theorem pairs_calls (w : World) (a b : Option Addr) (l l' c c' : Nat) :
    Calls Try.prog 37 #[.slice a l c, .slice b l' c'] w fun e w' => e = .returned (.func (.func 46) #[] #[.pointer (some ⟨w.heap.size + 1, 0, none⟩), .pointer (some ⟨w.heap.size, 0, none⟩)]) ∧ w' = (w.alloc (.cells #[.slice a l c] 22)).alloc (.cells #[.slice b l' c'] 22) := by
  go_enter Try.func37, Try.ntmps37
  go_wp2
  go_ret
  exact ⟨rfl, rfl⟩
end Go.Proofs.Ytnjkdplhoihkiaa
