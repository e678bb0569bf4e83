/- Powers modulo a prime; roots of 1. -/
import Derived.Test.YtofhpfmgopmcmaaDoorF1
import Derived.Test.YtofhpfmgopmcmaaDoorT
import Derived.Deep.RegionHeld3
namespace Go.Proofs.YtofhpfmgopmcmaaDoor
open Go.RowKit
set_option linter.unusedVariables false
set_option maxHeartbeats 400000

/-- The record lies in block B. -/
def Bx (w : World) (B : Nat) (f : Fd) : Prop := B < w.heap.size ∧ w.cell? ⟨B, 0, none⟩ = some (.int .u32 (f.p : Int)) ∧ w.cell? ⟨B, 1, none⟩ = some (.int .u32 (f.root : Int)) ∧ w.cell? ⟨B, 2, none⟩ = some (.int .u32 (f.neg : Int)) ∧ w.cell? ⟨B, 3, none⟩ = some (.int .u32 (f.square : Int)) ∧ w.cell? ⟨B, 4, none⟩ = some (.int .u32 (f.ahead : Int))
theorem Bx.below {w w' : World} {B C : Nat} {f : Fd} (h : Bx w B f) (hB : Below C w w') (hc : B < C) : Bx w' B f := by
  obtain ⟨h0, h1, h2, h3, h4, h5⟩ := h
  have hs := hB.size
  have hc := fun o => hB.cell (p := ⟨B, o, none⟩) hc
  exact ⟨by omega, by rw [hc]; exact h1, by rw [hc]; exact h2, by rw [hc]; exact h3, by rw [hc]; exact h4, by rw [hc]; exact h5⟩
theorem Bx.ext {w w' : World} {B : Nat} {f : Fd} (h : Bx w B f) (hB : Ext w w') : Bx w' B f := h.below hB h.1
theorem Bx.new (w : World) (f : Fd) : Bx (w.alloc (.cells #[.int .u32 (f.p : Int), .int .u32 (f.root : Int), .int .u32 (f.neg : Int), .int .u32 (f.square : Int), .int .u32 (f.ahead : Int)] 56)) w.heap.size f := by
  refine ⟨by simp, ?_, ?_, ?_, ?_, ?_⟩ <;> go_simp

theorem keepB {w x y : World} {B : Nat} {f : Fd} (h : (B < x.heap.size ∧ x.cell? ⟨B, 0, none⟩ = some (.int .u32 (f.p : Int)) ∧ x.cell? ⟨B, 1, none⟩ = some (.int .u32 (f.root : Int)) ∧ x.cell? ⟨B, 2, none⟩ = some (.int .u32 (f.neg : Int)) ∧ x.cell? ⟨B, 3, none⟩ = some (.int .u32 (f.square : Int)) ∧ x.cell? ⟨B, 4, none⟩ = some (.int .u32 (f.ahead : Int))) ∧ Ext w x) (hB : Ext x y) :
    (B < y.heap.size ∧ y.cell? ⟨B, 0, none⟩ = some (.int .u32 (f.p : Int)) ∧ y.cell? ⟨B, 1, none⟩ = some (.int .u32 (f.root : Int)) ∧ y.cell? ⟨B, 2, none⟩ = some (.int .u32 (f.neg : Int)) ∧ y.cell? ⟨B, 3, none⟩ = some (.int .u32 (f.square : Int)) ∧ y.cell? ⟨B, 4, none⟩ = some (.int .u32 (f.ahead : Int))) ∧ Ext w y :=
  ⟨Bx.ext (f := f) h.1 hB, h.2.below hB⟩

/-- The power so far, of the bits of n that lie from i on. -/
theorem pow_step (f : Fd) (hf : Good f) (X n i : Nat) :
    (if n / 2 ^ i % 2 = 1 then mm f (mm f (mont f (X ^ (n / 2 ^ (i + 1)))) (mont f (X ^ (n / 2 ^ (i + 1))))) (mont f X) else mm f (mont f (X ^ (n / 2 ^ (i + 1)))) (mont f (X ^ (n / 2 ^ (i + 1))))) = mont f (X ^ (n / 2 ^ i)) := by
  have e : n / 2 ^ i = 2 * (n / 2 ^ (i + 1)) + n / 2 ^ i % 2 := by
    rw [Nat.pow_succ, ← Nat.div_div_eq_div_mul]; omega
  have h2 : n / 2 ^ i % 2 = 0 ∨ n / 2 ^ i % 2 = 1 := by omega
  rw [mm_mont2 f hf, mm_mont2 f hf]
  rcases h2 with h | h
  · rw [if_neg (by omega), ← Nat.pow_add]; congr 2; omega
  · rw [if_pos h, ← Nat.pow_add, ← Nat.pow_succ]; congr 2; omega

theorem pow_calls (w : World) (f : Fd) (hf : Good f) (X n : Nat) (hn : n < 4294967296) :
    Calls Tryd.prog 45 #[f.V, .int .u32 (mont f X : Nat), .int .u32 (n : Nat)] w fun e w' => e = .returned (.int .u32 (mont f (X ^ n) : Nat)) ∧ Ext w w' := by
  have p0 := hf.p0
  have p1 := hf.p1
  have hbl := blen_le_of_lt (n := n) (k := 32) (by simpa using hn)
  have hm1 := mont_lt f hf X
  have HW := Lib.hid (lt_pow_blen n)
  have HX := Bx.new w f
  unfold Fd.V
  go_enter Tryd.func45, Tryd.ntmps45
  go_wp2_with (fail)
  refine (in_calls _ f hf 1 (by decide)).mono ?_
  rintro e w1 ⟨rfl, hB1⟩
  have hE1 := ((Ext.refl w).alloc _).below hB1
  replace HX := HX.ext hB1
  clear hB1
  go_wp2_with (fail)
  refine (len32_calls _ n hn).mono ?_
  rintro e w2 ⟨rfl, rfl⟩
  go_wp2_with (fail)
  go_loopw [7, 8] (fun y i wr => ∃ m : Nat, m ≤ 32 ∧ i = .int .i64 ((m : Int) - 1) ∧ y = .int .u32 (mont f (X ^ (n / 2 ^ m)) : Nat) ∧ Ext w wr ∧ Bx wr w.heap.size f) (fun _ i _ => (intOf i + 1).toNat)
  case atStart => exact ⟨blen n, hbl, rfl, by rw [Nat.div_eq_of_lt HW.out, Nat.pow_zero], hE1, HX⟩
  case round =>
    clear HX hE1
    obtain ⟨m, hm, rfl, rfl, hE, HB⟩ := hrel
    rcases m with _ | k
    · rw [Nat.pow_zero, Nat.div_one]
      go_wp2
      go_ret
      exact ⟨rfl, hE⟩
    · obtain ⟨b0, b1, b2, b3, b4, b5⟩ := id HB
      have hs := pow_step f hf X n k
      have hm2 := mont_lt f hf (X ^ (n / 2 ^ (k + 1)))
      have hq := mm_lt f hf (mont f (X ^ (n / 2 ^ (k + 1)))) (mont f (X ^ (n / 2 ^ (k + 1))))
      have hik : (((k + 1 : Nat) : Int) - 1) = (k : Int) := by omega
      rw [hik]
      clear hik
      generalize mont f (X ^ (n / 2 ^ (k + 1))) = Y at *
      go_wp2_with (fail)
      refine (mul_calls _ f hf Y Y (by omega) (by omega) (lt_prod (by omega) hm2)).mono ?_
      rintro e w2 ⟨rfl, hB2⟩
      obtain ⟨c0, c1, c2, c3, c4, c5⟩ := HB.ext hB2
      generalize mm f Y Y = Z at *
      have hbit : bits .and .u32 ((n : Int) / 2 ^ k) 1 = ((n / 2 ^ k % 2 : Nat) : Int) := by
        rw [show ((n : Int) / 2 ^ k) = ((n / 2 ^ k : Nat) : Int) by rw [Int.natCast_ediv, Int.natCast_pow]; rfl]
        rw [show (1 : Int) = ((1 : Nat) : Int) from rfl, u32_and_nat _ _ (Nat.lt_of_le_of_lt (Nat.div_le_self _ _) hn) (by decide), nat_mask1]
      by_cases h : n / 2 ^ k % 2 = 1
      · rw [if_pos h] at hs
        rw [h] at hbit
        have HS := Lib.hid hs
        have ht : (bits .and .u32 ((n : Int) / 2 ^ k) 1 == 1) = true := by rw [hbit]; rfl
        clear h hbit hs
        go_wp2_with (fail)
        refine (mul_calls _ f hf Z (mont f X) (by omega) (by omega) (lt_prod (by omega) hm1)).mono ?_
        rintro e w3 ⟨rfl, hB3⟩
        rw [HS.out]
        have hE3 := (hE.below hB2).below hB3
        have HB3 := (HB.ext hB2).ext hB3
        clear c0 c1 c2 c3 c4 c5 b0 b1 b2 b3 b4 b5
        go_wp2
        go_roundw
        case rel => exact ⟨k, by omega, rfl, rfl, hE3, HB3⟩
        case measure => simp [intOf]
      · rw [if_neg h] at hs
        have HS := Lib.hid hs
        have ht : (bits .and .u32 ((n : Int) / 2 ^ k) 1 == 1) = false := by rw [hbit, beq_eq_false_iff_ne]; omega
        clear h hbit hs
        have hE3 := hE.below hB2
        have HB3 := HB.ext hB2
        clear c0 c1 c2 c3 c4 c5 b0 b1 b2 b3 b4 b5
        go_wp2
        go_roundw
        case rel => exact ⟨k, by omega, rfl, by rw [HS.out], hE3, HB3⟩
        case measure => simp [intOf]

theorem inverse_calls (w : World) (f : Fd) (hf : Good f) (X : Nat) :
    Calls Tryd.prog 54 #[f.V, .int .u32 (mont f X : Nat)] w fun e w' => e = .returned (.int .u32 (mont f (X ^ (f.p - 2)) : Nat)) ∧ Ext w w' := by
  have p0 := hf.p0
  have p1 := hf.p1
  have hw : ((f.p : Int) - 2) % 4294967296 = ((f.p - 2 : Nat) : Int) := by omega
  have hw2 : (f.p : Int) - 2 = ((f.p - 2 : Nat) : Int) := by omega
  have hc := fun w => pow_calls w f hf X (f.p - 2) (by omega)
  generalize f.p - 2 = n at *
  have HC := Lib.hid hc
  clear hc
  unfold Fd.V
  go_enter Tryd.func54, Tryd.ntmps54
  go_wp2_with (fail)
  refine (HC.out _).mono ?_
  rintro e w1 ⟨rfl, hB⟩
  go_wp2
  go_ret
  exact ⟨rfl, ((Ext.refl w).alloc _).below hB⟩

/-- A root of the order 2^k. -/
def rt (f : Fd) (k : Nat) : Nat := f.root ^ ((f.p - 1) / 2 ^ k)
theorem of_calls (w : World) (f : Fd) (hf : Good f) (k : Nat) (hk : k ≤ 20) :
    Calls Tryd.prog 30 #[f.V, .int .i64 (k : Nat)] w fun e w' => e = .returned (.int .u32 (mont f (rt f k) : Nat)) ∧ Ext w w' := by
  have p0 := hf.p0
  have p1 := hf.p1
  have rb := hf.rb
  have hk0 : decide ((k : Int) < 0) = false := by rw [decide_eq_false_iff_not]; omega
  have hc := fun w => pow_calls w f hf f.root ((f.p - 1) / 2 ^ k) (Nat.lt_of_le_of_lt (Nat.div_le_self _ _) (by omega))
  change ∀ w, Calls _ _ _ w fun e w' => e = .returned (.int .u32 (mont f (rt f k) : Nat)) ∧ Ext w w' at hc
  have hwa : IntKind.u32.wrap ((f.p : Int) - 1) = ((f.p - 1 : Nat) : Int) := by rw [IntKind.wrap_u32]; omega
  have hwb : ((f.p : Int) - 1) % 4294967296 = ((f.p - 1 : Nat) : Int) := by omega
  have hwc : (f.p : Int) - 1 = ((f.p - 1 : Nat) : Int) := by omega
  have hwd : ((f.p - 1 : Nat) : Int) / 2 ^ k = (((f.p - 1) / 2 ^ k : Nat) : Int) := by rw [Int.natCast_ediv, Int.natCast_pow]; rfl
  have hwe : IntKind.u32.wrap ((f.p - 1 : Nat) : Int) / 2 ^ k = (((f.p - 1) / 2 ^ k : Nat) : Int) := by rw [IntKind.wrap_u32, ← hwd]; congr 1; omega
  generalize (f.p - 1) / 2 ^ k = n at *
  generalize f.p - 1 = m at *
  have HC := Lib.hid hc
  have HX := Bx.new w f
  clear hc
  unfold Fd.V
  go_enter Tryd.func30, Tryd.ntmps30
  go_wp2_with (fail)
  have hS0 := (show Bx (w.alloc (.cells #[.int .u32 (f.p : Int), .int .u32 (f.root : Int), .int .u32 (f.neg : Int), .int .u32 (f.square : Int), .int .u32 (f.ahead : Int)] 56)).drew w.heap.size f ∧ Ext w (w.alloc (.cells #[.int .u32 (f.p : Int), .int .u32 (f.root : Int), .int .u32 (f.neg : Int), .int .u32 (f.square : Int), .int .u32 (f.ahead : Int)] 56)).drew from ⟨HX, ((Ext.refl w).alloc _).drew⟩)
  go_region_held3 (fun x => (w.heap.size < x.heap.size ∧ x.cell? ⟨w.heap.size, 0, none⟩ = some (.int .u32 (f.p : Int)) ∧ x.cell? ⟨w.heap.size, 1, none⟩ = some (.int .u32 (f.root : Int)) ∧ x.cell? ⟨w.heap.size, 2, none⟩ = some (.int .u32 (f.neg : Int)) ∧ x.cell? ⟨w.heap.size, 3, none⟩ = some (.int .u32 (f.square : Int)) ∧ x.cell? ⟨w.heap.size, 4, none⟩ = some (.int .u32 (f.ahead : Int))) ∧ Ext w x)
    (first
      | exact hS0
      | exact keepB (by assumption) (by assumption))
    (first
      | (go_at_call 46; ((with_reducible refine (in_calls _ f hf f.root (by omega)).mono ?_); rintro e w1 ⟨rfl, hB⟩))
      | (go_at_call 45; ((with_reducible refine (HC.out _).mono ?_); rintro e w1 ⟨rfl, hB⟩)))
  go_wp2
  go_ret
  go_split_ands
  exact ⟨rfl, by assumption⟩

/-- Its inverse. -/
def bt (f : Fd) (k : Nat) : Nat := rt f k ^ (f.p - 2)
theorem backward_calls (w : World) (f : Fd) (hf : Good f) (k : Nat) (hk : k ≤ 20) :
    Calls Tryd.prog 38 #[f.V, .int .i64 (k : Nat)] w fun e w' => e = .returned (.int .u32 (mont f (bt f k) : Nat)) ∧ Ext w w' := by
  have HX := Bx.new w f
  have hS0 := (show Bx (w.alloc (.cells #[.int .u32 (f.p : Int), .int .u32 (f.root : Int), .int .u32 (f.neg : Int), .int .u32 (f.square : Int), .int .u32 (f.ahead : Int)] 56)).drew w.heap.size f ∧ Ext w (w.alloc (.cells #[.int .u32 (f.p : Int), .int .u32 (f.root : Int), .int .u32 (f.neg : Int), .int .u32 (f.square : Int), .int .u32 (f.ahead : Int)] 56)).drew from ⟨HX, ((Ext.refl w).alloc _).drew⟩)
  unfold Fd.V
  go_enter Tryd.func38, Tryd.ntmps38
  go_wp2_with (fail)
  go_region_held3 (fun x => (w.heap.size < x.heap.size ∧ x.cell? ⟨w.heap.size, 0, none⟩ = some (.int .u32 (f.p : Int)) ∧ x.cell? ⟨w.heap.size, 1, none⟩ = some (.int .u32 (f.root : Int)) ∧ x.cell? ⟨w.heap.size, 2, none⟩ = some (.int .u32 (f.neg : Int)) ∧ x.cell? ⟨w.heap.size, 3, none⟩ = some (.int .u32 (f.square : Int)) ∧ x.cell? ⟨w.heap.size, 4, none⟩ = some (.int .u32 (f.ahead : Int))) ∧ Ext w x)
    (first
      | exact hS0
      | exact keepB (by assumption) (by assumption))
    (first
      | (go_at_call 30; ((with_reducible refine (of_calls _ f hf k hk).mono ?_); rintro e w1 ⟨rfl, hB⟩))
      | (go_at_call 54; ((with_reducible refine (inverse_calls _ f hf (rt f k)).mono ?_); rintro e w1 ⟨rfl, hB⟩)))
  go_wp2
  go_ret
  go_split_ands
  exact ⟨rfl, by assumption⟩
/-- What a sum of n numbers is divided by. -/
def sh (f : Fd) (n : Nat) : Nat := n ^ (f.p - 2)
theorem share_calls (w : World) (f : Fd) (hf : Good f) (n : Nat) (hn : n < 4294967296) :
    Calls Tryd.prog 42 #[f.V, .int .i64 (n : Nat)] w fun e w' => e = .returned (.int .u32 (mont f (sh f n) : Nat)) ∧ Ext w w' := by
  have HX := Bx.new w f
  have hS0 := (show Bx (w.alloc (.cells #[.int .u32 (f.p : Int), .int .u32 (f.root : Int), .int .u32 (f.neg : Int), .int .u32 (f.square : Int), .int .u32 (f.ahead : Int)] 56)).drew w.heap.size f ∧ Ext w (w.alloc (.cells #[.int .u32 (f.p : Int), .int .u32 (f.root : Int), .int .u32 (f.neg : Int), .int .u32 (f.square : Int), .int .u32 (f.ahead : Int)] 56)).drew from ⟨HX, ((Ext.refl w).alloc _).drew⟩)
  have hw : IntKind.u32.wrap (n : Int) = (n : Int) := by rw [IntKind.wrap_u32]; omega
  unfold Fd.V
  go_enter Tryd.func42, Tryd.ntmps42
  go_wp2_with (fail)
  go_region_held3 (fun x => (w.heap.size < x.heap.size ∧ x.cell? ⟨w.heap.size, 0, none⟩ = some (.int .u32 (f.p : Int)) ∧ x.cell? ⟨w.heap.size, 1, none⟩ = some (.int .u32 (f.root : Int)) ∧ x.cell? ⟨w.heap.size, 2, none⟩ = some (.int .u32 (f.neg : Int)) ∧ x.cell? ⟨w.heap.size, 3, none⟩ = some (.int .u32 (f.square : Int)) ∧ x.cell? ⟨w.heap.size, 4, none⟩ = some (.int .u32 (f.ahead : Int))) ∧ Ext w x)
    (first
      | exact hS0
      | exact keepB (by assumption) (by assumption))
    (first
      | (go_at_call 46; ((with_reducible refine (in_calls _ f hf n hn).mono ?_); rintro e w1 ⟨rfl, hB⟩))
      | (go_at_call 54; ((with_reducible refine (inverse_calls _ f hf n).mono ?_); rintro e w1 ⟨rfl, hB⟩)))
  go_wp2
  go_ret
  go_split_ands
  exact ⟨rfl, by assumption⟩
end Go.Proofs.YtofhpfmgopmcmaaDoor
