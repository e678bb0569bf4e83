/- Numbers modulo a prime, times 2^32, as Montgomery has them. -/
import Derived.Test.YtofhpfmgopmcmaaDoorK
import Derived.Test.YtofhpfmgopmcmaaDoorY1
namespace Go.Proofs.YtofhpfmgopmcmaaDoor
open Go.RowKit
set_option linter.unusedVariables false
set_option maxHeartbeats 400000

/-- A prime and what goes with it. -/
structure Fd where
  p : Nat
  root : Nat
  neg : Nat
  square : Nat
  ahead : Nat
  ri : Nat
/-- The record as the program has it. -/
abbrev Fd.V (f : Fd) : Value := .agg #[.int .u32 (f.p : Int), .int .u32 (f.root : Int), .int .u32 (f.neg : Int), .int .u32 (f.square : Int), .int .u32 (f.ahead : Int)]
structure Good (f : Fd) : Prop where
  p0 : 1 < f.p
  p1 : f.p < 1073741824
  n1 : f.neg < 4294967296
  neg : (f.neg * f.p + 1) % 4294967296 = 0
  ri : f.ri * 4294967296 % f.p = 1
  rb : f.root < f.p
  sb : f.square < f.p
  sq : f.square = 4294967296 * 4294967296 % f.p
  ab : f.ahead < f.p
/-- The product as it is told. -/
def mm (f : Fd) (x y : Nat) : Nat := x * y * f.ri % f.p

theorem mont_div (Z n p : Nat) (hn : (n * p + 1) % 4294967296 = 0) : (Z + Z % 4294967296 * n % 4294967296 * p) % 4294967296 = 0 := by
  have h1 : (Z + Z % 4294967296 * n % 4294967296 * p) % 4294967296 = (Z * (n * p + 1)) % 4294967296 := by
    rw [Nat.mul_add, Nat.mul_one, Nat.add_mod, Nat.mul_mod (Z % 4294967296 * n % 4294967296), Nat.mod_mod, ← Nat.mul_mod, Nat.mul_assoc, Nat.mul_mod (Z % 4294967296), Nat.mod_mod, ← Nat.mul_mod, ← Nat.add_mod, Nat.add_comm]
  rw [h1, Nat.mul_mod, hn, Nat.mul_zero, Nat.zero_mod]
/-- What the program reckons, before it takes p away or not. -/
def mt (f : Fd) (Z : Nat) : Nat := (Z + Z % 4294967296 * f.neg % 4294967296 * f.p) / 4294967296
theorem mt_eq (f : Fd) (hf : Good f) (Z : Nat) : mt f Z * 4294967296 = Z + Z % 4294967296 * f.neg % 4294967296 * f.p := by
  have := mont_div Z f.neg f.p hf.neg
  unfold mt; omega
theorem mt_mod (f : Fd) (hf : Good f) (Z : Nat) : mt f Z % f.p = Z * f.ri % f.p := by
  have h1 : mt f Z * 4294967296 % f.p = Z % f.p := by rw [mt_eq f hf, Nat.add_mul_mod_self_right]
  have h2 : mt f Z * 4294967296 * f.ri % f.p = Z * f.ri % f.p := by rw [Nat.mul_mod, h1, ← Nat.mul_mod]
  rw [← h2, Nat.mul_assoc, Nat.mul_comm 4294967296, Nat.mul_mod, hf.ri, Nat.mul_one, Nat.mod_mod]
theorem mt_lt (f : Fd) (hf : Good f) (Z : Nat) (hZ : Z < 4294967296 * f.p) : mt f Z < 2 * f.p := by
  have h1 := mt_eq f hf Z
  have h2 : Z % 4294967296 * f.neg % 4294967296 * f.p ≤ 4294967295 * f.p := Nat.mul_le_mul_right _ (by omega)
  have := hf.p0
  omega
theorem mm_of_lt (f : Fd) (hf : Good f) (x y : Nat) (h : mt f (x * y) < f.p) : mm f x y = mt f (x * y) := by
  have := mt_mod f hf (x * y)
  rw [Nat.mod_eq_of_lt h] at this
  exact this.symm
theorem mm_of_ge (f : Fd) (hf : Good f) (x y : Nat) (hZ : x * y < 4294967296 * f.p) (h : f.p ≤ mt f (x * y)) : mm f x y = mt f (x * y) - f.p := by
  have h1 := mt_mod f hf (x * y)
  have h2 := mt_lt f hf _ hZ
  rw [Nat.mod_eq_sub_mod h, Nat.mod_eq_of_lt (by omega)] at h1
  exact h1.symm
theorem mm_lt (f : Fd) (hf : Good f) (x y : Nat) : mm f x y < f.p := Nat.mod_lt _ (by have := hf.p0; omega)

theorem mul_calls (w : World) (f : Fd) (hf : Good f) (x y : Nat) (hx : x < 4294967296) (hy : y < 4294967296) (hxy : x * y < 4294967296 * f.p) :
    Calls Tryd.prog 43 #[f.V, .int .u32 (x : Nat), .int .u32 (y : Nat)] w fun e w' => e = .returned (.int .u32 (mm f x y : Nat)) ∧ Ext w w' := by
  have p0 := hf.p0
  have p1 := hf.p1
  have n1 := hf.n1
  obtain ⟨Z, hZ⟩ : ∃ Z, x * y = Z := ⟨_, rfl⟩
  rw [hZ] at hxy
  have hz : (x : Int) * (y : Int) = (Z : Int) := by rw [← hZ, Int.natCast_mul]
  have H1 := Lib.hid (mm_of_lt f hf x y)
  have H2 := Lib.hid (fun h => mm_of_ge f hf x y (by rw [hZ]; exact hxy) h)
  rw [hZ] at H1 H2
  have hT := mt_lt f hf Z hxy
  have hv : IntKind.u64.wrap ((Z : Int) + IntKind.u64.wrap ((Z : Int) % 4294967296 * (f.neg : Int) % 4294967296 * (f.p : Int))) / 4294967296 = ((mt f Z : Nat) : Int) := by
    have hm : Z % 4294967296 * f.neg % 4294967296 < 4294967296 := Nat.mod_lt _ (by decide)
    have hq : Z % 4294967296 * f.neg % 4294967296 * f.p ≤ 4294967295 * f.p := Nat.mul_le_mul_right _ (by omega)
    have e1 : (Z : Int) % 4294967296 * (f.neg : Int) % 4294967296 * (f.p : Int) = ((Z % 4294967296 * f.neg % 4294967296 * f.p : Nat) : Int) := by
      rw [Int.natCast_mul, Int.natCast_emod, Int.natCast_mul, Int.natCast_emod]; rfl
    rw [e1]
    unfold mt
    generalize Z % 4294967296 * f.neg % 4294967296 * f.p = Q at *
    rw [IntKind.wrap_u64, IntKind.wrap_u64]
    omega
  generalize mt f Z = T at *
  have hZb : Z < 4611686018427387904 := by omega
  clear hZ hxy
  rcases Nat.lt_or_ge T f.p with h | h
  · have HF := Lib.hid (H1.out h)
    clear H1 H2
    unfold Fd.V
    go_enter Tryd.func43, Tryd.ntmps43
    go_wp2
    go_ret
    exact ⟨ret_int (by rw [HF.out]), (Ext.refl w).alloc _⟩
  · have HF := Lib.hid (H2.out h)
    clear H1 H2
    unfold Fd.V
    go_enter Tryd.func43, Tryd.ntmps43
    go_wp2
    go_ret
    exact ⟨ret_int (by rw [HF.out]; omega), (Ext.refl w).alloc _⟩

/-- Sum and difference, as they are told. -/
theorem add_calls (w : World) (f : Fd) (hf : Good f) (x y : Nat) (hx : x < f.p) (hy : y < f.p) :
    Calls Tryd.prog 55 #[f.V, .int .u32 (x : Nat), .int .u32 (y : Nat)] w fun e w' => e = .returned (.int .u32 ((x + y) % f.p : Nat)) ∧ Ext w w' := by
  have p0 := hf.p0
  have p1 := hf.p1
  rcases Nat.lt_or_ge (x + y) f.p with h | h
  · have HF := Lib.hid (Nat.mod_eq_of_lt h)
    unfold Fd.V
    go_enter Tryd.func55, Tryd.ntmps55
    go_wp2
    go_ret
    exact ⟨ret_int (by rw [HF.out]; omega), (Ext.refl w).alloc _⟩
  · have HF : Hid ((x + y) % f.p = x + y - f.p) := by rw [Hid, Nat.mod_eq_sub_mod h, Nat.mod_eq_of_lt (by omega)]
    unfold Fd.V
    go_enter Tryd.func55, Tryd.ntmps55
    go_wp2
    go_ret
    exact ⟨ret_int (by rw [HF.out]; omega), (Ext.refl w).alloc _⟩
theorem sub_calls (w : World) (f : Fd) (hf : Good f) (x y : Nat) (hx : x < f.p) (hy : y < f.p) :
    Calls Tryd.prog 52 #[f.V, .int .u32 (x : Nat), .int .u32 (y : Nat)] w fun e w' => e = .returned (.int .u32 ((x + f.p - y) % f.p : Nat)) ∧ Ext w w' := by
  have p0 := hf.p0
  have p1 := hf.p1
  rcases Nat.lt_or_ge x y with h | h
  · have HF : Hid ((x + f.p - y) % f.p = x + f.p - y) := Nat.mod_eq_of_lt (by omega)
    have hw : IntKind.u32.wrap (((x : Int) - (y : Int)) % 4294967296 + (f.p : Int)) = ((x + f.p - y : Nat) : Int) := by rw [IntKind.wrap_u32]; omega
    unfold Fd.V
    go_enter Tryd.func52, Tryd.ntmps52
    go_wp2
    go_ret
    exact ⟨ret_int (by rw [HF.out]), (Ext.refl w).alloc _⟩
  · have HF : Hid ((x + f.p - y) % f.p = x - y) := by rw [Hid, Nat.mod_eq_sub_mod (by omega), Nat.mod_eq_of_lt (by omega)]; omega
    unfold Fd.V
    go_enter Tryd.func52, Tryd.ntmps52
    go_wp2
    go_ret
    exact ⟨ret_int (by rw [HF.out]; omega), (Ext.refl w).alloc _⟩
/-- x times 2^32. -/
def mont (f : Fd) (x : Nat) : Nat := x * 4294967296 % f.p
theorem mont_lt (f : Fd) (hf : Good f) (x : Nat) : mont f x < f.p := Nat.mod_lt _ (by have := hf.p0; omega)
theorem mul_mod2 (a b p : Nat) : a % p * b % p = a * b % p := by rw [Nat.mul_mod, Nat.mod_mod, ← Nat.mul_mod]
theorem mm_mont (f : Fd) (hf : Good f) (x y : Nat) : mm f (mont f x) y = x * y % f.p := by
  unfold mm mont
  rw [Nat.mul_assoc, mul_mod2, show x * 4294967296 * (y * f.ri) = f.ri * 4294967296 * (x * y) by grind, ← mul_mod2, hf.ri, Nat.one_mul]
theorem mm_comm (f : Fd) (x y : Nat) : mm f x y = mm f y x := by unfold mm; rw [Nat.mul_comm x]
theorem mm_mont2 (f : Fd) (hf : Good f) (x y : Nat) : mm f (mont f x) (mont f y) = mont f (x * y) := by
  rw [mm_mont f hf]; unfold mont; rw [Nat.mul_comm, mul_mod2, Nat.mul_comm, ← Nat.mul_assoc]
theorem mont_mod (f : Fd) (x : Nat) : mont f (x % f.p) = mont f x := by unfold mont; rw [mul_mod2]
theorem mm_square (f : Fd) (hf : Good f) (x : Nat) : mm f x f.square = mont f x := by
  rw [mm_comm, hf.sq]
  rw [show 4294967296 * 4294967296 % f.p = mont f 4294967296 from rfl, mm_mont f hf]
  unfold mont; rw [Nat.mul_comm]
theorem mm_one (f : Fd) (hf : Good f) (x : Nat) : mm f (mont f x) 1 = x % f.p := by rw [mm_mont f hf, Nat.mul_one]
theorem lt_prod {x y p : Nat} (hx : x < 4294967296) (hy : y < p) : x * y < 4294967296 * p := by
  have h1 : x * y ≤ x * p := Nat.mul_le_mul_left _ (by omega)
  have h2 : x * p < 4294967296 * p := Nat.mul_lt_mul_of_pos_right hx (by omega)
  omega
theorem in_calls (w : World) (f : Fd) (hf : Good f) (x : Nat) (hx : x < 4294967296) :
    Calls Tryd.prog 46 #[f.V, .int .u32 (x : Nat)] w fun e w' => e = .returned (.int .u32 (mont f x : Nat)) ∧ Ext w w' := by
  have p1 := hf.p1
  have sb := hf.sb
  have HM := Lib.hid (mm_square f hf x)
  have hc := mul_calls (w.alloc (.cells #[.int .u32 (f.p : Int), .int .u32 (f.root : Int), .int .u32 (f.neg : Int), .int .u32 (f.square : Int), .int .u32 (f.ahead : Int)] 56)) f hf x f.square hx (by omega) (lt_prod hx sb)
  have HC := Lib.hid hc
  clear hc
  unfold Fd.V
  go_enter Tryd.func46, Tryd.ntmps46
  go_wp2_with (fail)
  refine HC.out.mono ?_
  rintro e w1 ⟨rfl, hB⟩
  rw [HM.out]
  go_wp2
  go_ret
  exact ⟨rfl, ((Ext.refl w).alloc _).below hB⟩
theorem out_calls (w : World) (f : Fd) (hf : Good f) (x : Nat) (hx : x < 4294967296) :
    Calls Tryd.prog 29 #[f.V, .int .u32 (x : Nat)] w fun e w' => e = .returned (.int .u32 (mm f x 1 : Nat)) ∧ Ext w w' := by
  have p0 := hf.p0
  have p1 := hf.p1
  have hc := mul_calls (w.alloc (.cells #[.int .u32 (f.p : Int), .int .u32 (f.root : Int), .int .u32 (f.neg : Int), .int .u32 (f.square : Int), .int .u32 (f.ahead : Int)] 56)) f hf x 1 hx (by omega) (lt_prod hx p0)
  have HC := Lib.hid hc
  clear hc
  unfold Fd.V
  go_enter Tryd.func29, Tryd.ntmps29
  go_wp2_with (fail)
  refine HC.out.mono ?_
  rintro e w1 ⟨rfl, hB⟩
  go_wp2
  go_ret
  exact ⟨rfl, ((Ext.refl w).alloc _).below hB⟩
end Go.Proofs.YtofhpfmgopmcmaaDoor
