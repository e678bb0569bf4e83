/- Small numbers in the walk by plans: comparisons, signs, products. -/
import Derived.Test.YtfkcdmbiihkiiaaGreatDoorBaw
import Derived.Test.YtfkcdmbiihkiiaaGreatDoorBbd
import Derived.Test.YtfkcdmbiihkiiaaGreatDoorBbi
import Derived.Test.YtfkcdmbiihkiiaaGreatDoorBbj
import Derived.Laws.Concat

namespace Go.Proofs.YtfkcdmbiihkiiaaGreatDoor
open Go.RowKit
set_option linter.unusedVariables false
set_option maxHeartbeats 400000

theorem bin_any {op : BinOp} {T : TypeId} {x y : Operand} {u u' v : Value} {X : World} (hg : (eqGuard op T x y u u').run Tryz.prog X = .ok () X) (h : (binOp op T u u').run Tryz.prog X = .ok v X) :
    (do eqGuard op T x y u u'; binOp op T u u' : Sem Value).run Tryz.prog X = .ok v X := by
  show (eqGuard op T x y u u' >>= fun _ => binOp op T u u').run _ _ = _
  rw [Sem.run_bind, hg]; exact h
theorem b_eql {x y : Operand} {a b : Int} {v : Bool} (h : (a == b) = v) (X : World) : (do eqGuard .eql 3 x y (.int .i64 a) (.int .i64 b); binOp .eql 3 (.int .i64 a) (.int .i64 b) : Sem Value).run Tryz.prog X = .ok (.bool v) X := by
  subst h; go_simp
theorem b_neq {x y : Operand} {a b : Int} {v : Bool} (h : (a != b) = v) (X : World) : (do eqGuard .neq 3 x y (.int .i64 a) (.int .i64 b); binOp .neq 3 (.int .i64 a) (.int .i64 b) : Sem Value).run Tryz.prog X = .ok (.bool v) X := by
  subst h; go_simp
theorem b_geq {x y : Operand} {a b : Int} {v : Bool} (h : decide (b ≤ a) = v) (X : World) : (do eqGuard .geq 3 x y (.int .i64 a) (.int .i64 b); binOp .geq 3 (.int .i64 a) (.int .i64 b) : Sem Value).run Tryz.prog X = .ok (.bool v) X := by
  subst h; go_simp
theorem b_eqb {x y : Operand} {a b v : Bool} (h : (a == b) = v) (X : World) : (do eqGuard .eql 4 x y (.bool a) (.bool b); binOp .eql 4 (.bool a) (.bool b) : Sem Value).run Tryz.prog X = .ok (.bool v) X := by
  subst h; go_simp
theorem b_mul {x y : Operand} {a b c : Int} (h : a * b = c) (h1 : -1000000 ≤ c) (h2 : c ≤ 1000000) (X : World) : (do eqGuard .mul 3 x y (.int .i64 a) (.int .i64 b); binOp .mul 3 (.int .i64 a) (.int .i64 b) : Sem Value).run Tryz.prog X = .ok (.int .i64 c) X := by
  have : IntKind.i64.wrap c = c := IntWalk.i64_in _ (by omega)
  go_simp
theorem b_mul1 {x y : Operand} {a b : Int} (ha : -1 ≤ a ∧ a ≤ 1) (hb : -1 ≤ b ∧ b ≤ 1) (X : World) : (do eqGuard .mul 3 x y (.int .i64 a) (.int .i64 b); binOp .mul 3 (.int .i64 a) (.int .i64 b) : Sem Value).run Tryz.prog X = .ok (.int .i64 (a * b)) X := by
  have h : -1 ≤ a * b ∧ a * b ≤ 1 := by
    have h1 : a = -1 ∨ a = 0 ∨ a = 1 := by omega
    rcases h1 with rfl | rfl | rfl <;> omega
  exact b_mul rfl (by omega) (by omega) X
theorem u_neg {a c : Int} (h : -a = c) (h1 : -1000000 ≤ c) (h2 : c ≤ 1000000) (X : World) : (Op.unary .neg (.int .i64 a)).run Tryz.prog X = .ok (.int .i64 c) X := by
  have : IntKind.i64.wrap c = c := IntWalk.i64_in _ (by omega)
  go_simp
theorem u_neg1 {a : Int} (h : -1 ≤ a ∧ a ≤ 1) (X : World) : (Op.unary .neg (.int .i64 a)).run Tryz.prog X = .ok (.int .i64 (-a)) X := u_neg rfl (by omega) (by omega) X
theorem sign_b (z : Int) : -1 ≤ Int.sign z ∧ Int.sign z ≤ 1 := by
  rcases Int.lt_trichotomy z 0 with h | h | h
  · rw [Int.sign_eq_neg_one_of_neg h]; omega
  · subst h; decide
  · rw [Int.sign_eq_one_of_pos h]; omega
theorem cmp_sign (a b : Int) : Int.sign (a - b) = cmpI a b := by
  unfold cmpI
  rcases Int.lt_trichotomy a b with h | h | h
  · rw [Int.sign_eq_neg_one_of_neg (by omega)]; simp [h]
  · subst h; simp
  · rw [Int.sign_eq_one_of_pos (by omega)]; simp [show ¬ a < b by omega, h]
theorem cmp_b (a b : Int) : -1 ≤ cmpI a b ∧ cmpI a b ≤ 1 := by rw [← cmp_sign]; exact sign_b _
theorem cmp_swap (a b : Int) : cmpI b a = -cmpI a b := by rw [← cmp_sign, ← cmp_sign, ← Int.sign_neg]; congr 1; omega
theorem cmp_add (a b c : Int) : cmpI (a + c) (b + c) = cmpI a b := by rw [← cmp_sign, ← cmp_sign]; congr 1; omega
theorem cmp_mul (a b c : Int) : cmpI (a * c) (b * c) = cmpI a b * Int.sign c := by rw [← cmp_sign, ← cmp_sign, ← Int.sign_mul, Int.sub_mul]
theorem sign_sq (a : Int) : 0 ≤ Int.sign (a * a) := by
  rw [Int.sign_mul]
  rcases Int.lt_trichotomy a 0 with h | h | h
  · rw [Int.sign_eq_neg_one_of_neg h]; decide
  · subst h; decide
  · rw [Int.sign_eq_one_of_pos h]; decide
theorem cmp_nought (a b : Int) : decide (cmpI a b = 0) = decide (a = b) := by
  rw [← cmp_sign, decide_eq_decide, Int.sign_eq_zero_iff_zero]
  omega
theorem cmp_nought2 (a b : Int) : ((cmpI a b == 0) == decide (a = b)) = true := by
  rw [beq_iff_eq, ← cmp_nought]; rfl
theorem b_neb {x y : Operand} {a b v : Bool} (h : (a != b) = v) (X : World) : (do eqGuard .neq 4 x y (.bool a) (.bool b); binOp .neq 4 (.bool a) (.bool b) : Sem Value).run Tryz.prog X = .ok (.bool v) X := by
  subst h; cases a <;> cases b <;> go_simp
theorem b_gtr {x y : Operand} {a b : Int} {v : Bool} (h : decide (b < a) = v) (X : World) : (do eqGuard .gtr 3 x y (.int .i64 a) (.int .i64 b); binOp .gtr 3 (.int .i64 a) (.int .i64 b) : Sem Value).run Tryz.prog X = .ok (.bool v) X := by
  subst h; go_simp
/-- The size of a struct in its block. -/
theorem Ib.mag {X : World} {N : Nat} {b : Bool} {m : Value} (h : Ib X N b m) : (Instr.loadAt 22 (.pointer (some ⟨N, 1, none⟩))).run Tryz.prog X = .ok m X := by
  obtain ⟨h0, h1, h2, h3, h4⟩ := h
  go_simp
theorem Ib.neg {X : World} {N : Nat} {b : Bool} {m : Value} (h : Ib X N b m) : (Instr.loadAt 4 (.pointer (some ⟨N, 0, none⟩))).run Tryz.prog X = .ok (.bool b) X := by
  obtain ⟨h0, h1, h2, h3, h4⟩ := h
  go_simp
theorem fa_mag (N : Nat) (X : World) : (Instr.fieldAt 24 (.pointer (some ⟨N, 0, none⟩)) 1).run Tryz.prog X = .ok (.pointer (some ⟨N, 1, none⟩)) X := by go_simp
theorem fa_neg (N : Nat) (X : World) : (Instr.fieldAt 24 (.pointer (some ⟨N, 0, none⟩)) 0).run Tryz.prog X = .ok (.pointer (some ⟨N, 0, none⟩)) X := by go_simp
section
variable {L : List Oper} {S : World → Prop} {K : List (Nat × Value) → World → Prop} {k : Bool} {i m d : Nat} {o : Oper} {x : Operand} {r : List (Bool × Nat × Nat)} {l : List (Nat × Value)} {w : World}
theorem qA_field {T : TypeId} {j : Nat} {p v : Value} (hS : S w) (ho : Pl.nth L i = some o) (hop : o.op = .fieldAddr T x j) (hd : o.dst = some d) (hg : Pl.gd L l o.guard = some true) (hx : Pl.opv l x = some p)
    (hr : ∀ X, (Instr.fieldAt T p j).run Tryz.prog X = .ok v X) (h : Pl.wpA Tryz.prog L S K r ((d, v) :: l) w) : Pl.wpA Tryz.prog L S K ((k, i, m) :: r) l w :=
  Pl.pA_pure hS ho hd hg (fun ρ hρ X _ => by unfold execOp; rw [hop]; exact Pl.run_val _ X (by rw [hρ.opv hx]; exact hr X)) h
theorem qA_len {A : Option Addr} {n c : Nat} (hS : S w) (ho : Pl.nth L i = some o) (hop : o.op = .call { callee := .builtin .len, args := #[x], argTypes := #[22] }) (hd : o.dst = some d) (hg : Pl.gd L l o.guard = some true) (hx : Pl.opv l x = some (.slice A n c))
    (h : Pl.wpA Tryz.prog L S K r ((d, .int .i64 (n : Int)) :: l) w) : Pl.wpA Tryz.prog L S K ((k, i, m) :: r) l w :=
  Pl.pA_pure hS ho hd hg (fun ρ hρ X _ => by
    obtain ⟨d', op', t', ps', af', gu'⟩ := o
    cases hop
    have e := hρ.opv hx
    simp [go_sem, e]) h
end
theorem Sz.div {a b : Int} {K : Nat} (h : Sz a K) : Sz (a / b) K := by
  refine len_of (show _ < 4294967296 ^ K from Nat.lt_of_le_of_lt (Int.natAbs_ediv_le_natAbs a b) (sz_lt h))
theorem Sz.mod {a b : Int} {K : Nat} (h : Sz b K) (h0 : b ≠ 0) : Sz (a % b) K := by
  refine len_of (show _ < 4294967296 ^ K from Nat.lt_of_le_of_lt ?_ (sz_lt h))
  have h1 := Int.emod_nonneg a h0
  have h2 := Int.emod_lt a h0
  omega
theorem Sz.mag {w : World} {v : Value} {xs : List Nat} (u : U w v xs) (b : Bool) (K : Nat) (hk : xs.length ≤ K) : Sz (sg b (val xs)) K := by
  show (limbs (sg b (val xs)).natAbs).length ≤ K
  rw [sg_abs]
  have := cutN_len xs xs.length u.lim
  unfold cutN at this
  rw [List.take_length] at this
  exact Nat.le_trans this hk
theorem qr_back (a b : Int) : a / b * b + a % b = a := by rw [Int.mul_comm]; exact Int.mul_ediv_add_emod a b
theorem b_lss {x y : Operand} {a b : Int} {v : Bool} (h : decide (a < b) = v) (X : World) : (do eqGuard .lss 3 x y (.int .i64 a) (.int .i64 b); binOp .lss 3 (.int .i64 a) (.int .i64 b) : Sem Value).run Tryz.prog X = .ok (.bool v) X := by
  subst h; go_simp
theorem sign_ne {b : Int} (h : b ≠ 0) : Int.sign b ≠ 0 := fun e => h (Int.sign_eq_zero_iff_zero.1 e)
theorem sign_nn {b : Int} (h : 0 ≤ b) : ¬ Int.sign b < 0 := by
  rcases Int.lt_trichotomy b 0 with h1 | h1 | h1
  · omega
  · subst h1; decide
  · rw [Int.sign_eq_one_of_pos h1]; decide
theorem Zn.mag {w : World} {p : Bool} {A : Option Addr} {n c : Nat} {z : Int} (h : Zn w (.agg #[.bool p, .slice A n c]) z) : Un w (.slice A n c) z.natAbs := by
  obtain ⟨A', c', e, hu⟩ := h
  simp only [Value.agg.injEq, Array.mk.injEq, List.cons.injEq, Value.slice.injEq] at e
  obtain ⟨_, ⟨rfl, rfl, rfl⟩, _⟩ := e
  exact hu
theorem rest_less (a : Int) {b : Int} (h : b ≠ 0) : cmpI ((a % b).natAbs : Int) (b.natAbs : Int) = -1 := by
  have h1 := Int.emod_nonneg a h
  have h2 := Int.emod_lt a h
  unfold cmpI
  rw [if_pos (by omega)]
theorem rest_of (c a b : Int) : (c * b + a % b) % b = a % b := by
  rw [Int.add_comm, Int.add_mul_emod_self_right, Int.emod_emod_of_dvd _ (Int.dvd_refl b)]
theorem quo_of (c a : Int) {b : Int} (h : b ≠ 0) : (c * b + a % b) / b = c := by
  have h1 := qr_back (c * b + a % b) b
  rw [rest_of] at h1
  exact Int.eq_of_mul_eq_mul_right h (by omega)
end Go.Proofs.YtfkcdmbiihkiiaaGreatDoor
/- Small numbers reckoned, powers and shifts, in the walk by plans. -/
namespace Go.Proofs.YtfkcdmbiihkiiaaGreatDoor
open Go.RowKit
set_option linter.unusedVariables false
set_option maxHeartbeats 400000

section
variable {x y : Operand} {X : World}
theorem b_rem {a b c : Nat} {z : Int} (hz' : z = (b : Int)) (h : a % b = c) (h0 : 0 < b) (ha : a ≤ 1000000) (hb : b ≤ 1000000) (X : World) : (do eqGuard .rem 3 x y (.int .i64 (a : Int)) (.int .i64 z); binOp .rem 3 (.int .i64 (a : Int)) (.int .i64 z) : Sem Value).run Tryz.prog X = .ok (.int .i64 (c : Int)) X := by
  subst hz'
  have e : Int.tmod (a : Int) (b : Int) = (c : Int) := by rw [← h]; rfl
  have hc : c < b := h ▸ Nat.mod_lt _ h0
  have w1 : IntKind.i64.wrap (c : Int) = (c : Int) := IntWalk.i64_in _ (by omega)
  have hz : ¬ ((b : Int) = 0) := by omega
  have hn : ¬ b = 0 := by omega
  clear h hc
  go_simp
theorem b_rem8 {a b c : Nat} {z : Int} (hz' : z = (b : Int)) (h : a % b = c) (h0 : 0 < b) (ha : a < 256) (hb : b < 256) (X : World) : (do eqGuard .rem 5 x y (.int .u8 (a : Int)) (.int .u8 z); binOp .rem 5 (.int .u8 (a : Int)) (.int .u8 z) : Sem Value).run Tryz.prog X = .ok (.int .u8 (c : Int)) X := by
  subst hz'
  have e : Int.tmod (a : Int) (b : Int) = (c : Int) := by rw [← h]; rfl
  have hc : c < b := h ▸ Nat.mod_lt _ h0
  have w1 : IntKind.u8.wrap (c : Int) = (c : Int) := by rw [IntKind.wrap_u8]; omega
  have hz : ¬ ((b : Int) = 0) := by omega
  have hn : ¬ b = 0 := by omega
  clear h hc
  go_simp
theorem b_add {a b c : Int} (h : a + b = c) (h1 : -1000000000 ≤ c) (h2 : c ≤ 1000000000) (X : World) : (do eqGuard .add 3 x y (.int .i64 a) (.int .i64 b); binOp .add 3 (.int .i64 a) (.int .i64 b) : Sem Value).run Tryz.prog X = .ok (.int .i64 c) X := by
  have : IntKind.i64.wrap c = c := IntWalk.i64_in _ (by omega)
  go_simp
theorem b_sub {a b c : Int} (h : a - b = c) (h1 : -1000000000 ≤ c) (h2 : c ≤ 1000000000) (X : World) : (do eqGuard .sub 3 x y (.int .i64 a) (.int .i64 b); binOp .sub 3 (.int .i64 a) (.int .i64 b) : Sem Value).run Tryz.prog X = .ok (.int .i64 c) X := by
  have : IntKind.i64.wrap c = c := IntWalk.i64_in _ (by omega)
  go_simp
section
variable {L : List Oper} {S : World → Prop} {K : List (Nat × Value) → World → Prop} {k : Bool} {i m d : Nat} {o : Oper} {r : List (Bool × Nat × Nat)} {l : List (Nat × Value)} {w : World}
theorem qA_conv {s t : TypeId} {u v : Value} (hS : S w) (ho : Pl.nth L i = some o) (hop : o.op = .convert s t x) (hd : o.dst = some d) (hg : Pl.gd L l o.guard = some true) (hx : Pl.opv l x = some u)
    (hr : ∀ X, (convert s t u).run Tryz.prog X = .ok v X) (h : Pl.wpA Tryz.prog L S K r ((d, v) :: l) w) : Pl.wpA Tryz.prog L S K ((k, i, m) :: r) l w :=
  Pl.pA_pure hS ho hd hg (fun ρ hρ X _ => by unfold execOp; rw [hop]; exact Pl.run_val _ X (by rw [hρ.opv hx]; exact hr X)) h
end
theorem cv_u8 {a : Nat} (ha : a < 256) (X : World) : (convert 5 3 (.int .u8 (a : Int))).run Tryz.prog X = .ok (.int .i64 (a : Int)) X := by
  have w1 : IntKind.i64.wrap (a : Int) = (a : Int) := IntWalk.i64_in _ (by omega)
  go_simp
theorem cv_u16 {a : Nat} (ha : a < 65536) (X : World) : (convert 49 3 (.int .u16 (a : Int))).run Tryz.prog X = .ok (.int .i64 (a : Int)) X := by
  have w1 : IntKind.i64.wrap (a : Int) = (a : Int) := IntWalk.i64_in _ (by omega)
  go_simp
theorem cv_u32 {a : Nat} (ha : a < 4294967296) (X : World) : (convert 56 2 (.int .u32 (a : Int))).run Tryz.prog X = .ok (.int .i64 (a : Int)) X := by
  have w1 : IntKind.i64.wrap (a : Int) = (a : Int) := IntWalk.i64_in _ (by omega)
  go_simp
end
theorem powN_len {a : Int} {K n M : Nat} (h : Sz a K) (hm : K * n ≤ M) (h1 : 1 ≤ M) : (limbs (a.natAbs ^ n)).length ≤ M := by
  refine len_of (show _ < 4294967296 ^ M from ?_)
  rcases Nat.eq_zero_or_pos n with rfl | hn
  · rw [Nat.pow_zero]
    exact Nat.one_lt_pow (by omega) (by decide)
  · refine Nat.lt_of_lt_of_le (Nat.pow_lt_pow_left (sz_lt h) (by omega)) ?_
    rw [← Nat.pow_mul]
    exact Nat.pow_le_pow_right (by decide) hm
theorem Sz.pow {a : Int} {K n M : Nat} (h : Sz a K) (hm : K * n ≤ M) (h1 : 1 ≤ M) : Sz (a ^ n) M := by
  show (limbs (a ^ n).natAbs).length ≤ M
  rw [Int.natAbs_pow]
  exact powN_len h hm h1
theorem two_len {n M : Nat} (h : n < 32 * M) : (limbs ((2 : Int).natAbs ^ n)).length ≤ M := by
  refine len_of (show _ < 4294967296 ^ M from ?_)
  show 2 ^ n < (2 ^ 32) ^ M
  rw [← Nat.pow_mul]
  exact Nat.pow_lt_pow_right (by decide) h
theorem Sz.two {n M : Nat} (h : n < 32 * M) : Sz ((2 : Int) ^ n) M := by
  show (limbs ((2 : Int) ^ n).natAbs).length ≤ M
  rw [Int.natAbs_pow]
  exact two_len h
/-- A shift, there or back. -/
def shl (a s : Int) : Int := if 0 ≤ s then a * 2 ^ s.toNat else a / 2 ^ (-s).toNat
theorem shl_pos (a : Int) (i : Nat) : shl a (i : Int) = a * 2 ^ i := by
  unfold shl; rw [if_pos (by omega)]; rfl
theorem shl_neg (a : Int) (i : Nat) : shl a (-(i : Int)) = a / 2 ^ i := by
  unfold shl
  rcases Nat.eq_zero_or_pos i with rfl | h
  · simp
  · rw [if_neg (by omega), Int.neg_neg]; rfl
theorem two_ne (i : Nat) : (2 : Int) ^ i ≠ 0 := Int.pow_ne_zero (by decide)
theorem two_pos (i : Nat) : (0 : Int) < (2 : Int) ^ i := Int.pow_pos (by decide)
theorem shl_nought (a : Int) : shl a 0 = a := by unfold shl; simp
theorem shl_back (a : Int) (i : Nat) : shl (shl a (i : Int)) (-(i : Int)) = a := by
  rw [shl_neg, shl_pos, Int.mul_ediv_cancel _ (two_ne i)]
theorem shl_two (a : Int) (i k : Nat) : shl (shl a (i : Int)) (-(k : Int)) = shl a ((i : Int) - (k : Int)) := by
  rw [shl_neg, shl_pos]
  rcases Nat.le_total k i with h | h
  · rw [show (i : Int) - (k : Int) = ((i - k : Nat) : Int) from by omega, shl_pos]
    rw [show (2 : Int) ^ i = 2 ^ (i - k) * 2 ^ k from by rw [← Int.pow_add, Nat.sub_add_cancel h], ← Int.mul_assoc, Int.mul_ediv_cancel _ (two_ne k)]
  · rw [show (i : Int) - (k : Int) = -((k - i : Nat) : Int) from by omega, shl_neg]
    rw [show (2 : Int) ^ k = 2 ^ i * 2 ^ (k - i) from by rw [← Int.pow_add, Nat.add_sub_cancel' h], Int.mul_comm a, Int.mul_ediv_mul_of_pos _ _ (two_pos i)]
theorem shl_both (a : Int) (i k : Nat) : shl (shl a (-(i : Int))) (-(k : Int)) = shl a (-(i : Int) - (k : Int)) := by
  rw [show -(i : Int) - (k : Int) = -((i + k : Nat) : Int) from by omega, shl_neg, shl_neg, shl_neg, Int.pow_add, Int.ediv_ediv_of_nonneg (Int.le_of_lt (two_pos i))]
theorem Sz.shl {a s : Int} {K M : Nat} (h : Sz a K) (hs : s < 32 * 29) (hm : K + 29 ≤ M) : Sz (shl a s) M := by
  unfold Go.Proofs.YtfkcdmbiihkiiaaGreatDoor.shl
  split
  · exact h.mul (Sz.two (M := 29) (by omega)) hm
  · exact h.div.le (by omega)
theorem zshl (w : World) (va : Value) (a s : Int) (ha : Zn w va a) (hl : (limbs a.natAbs).length ≤ 1000000) (hs1 : -1000000 ≤ s) (hs2 : s ≤ 1000000) :
    Calls Tryz.prog 40 #[va, .int .i64 s] w fun e w' => ∃ u, e = .returned u ∧ Zn w' u (shl a s) ∧ Ext w w' := zshift w va a s ha hl hs1 hs2 _ rfl
theorem sign_pow_odd (a : Int) {i : Nat} (h : i % 2 = 1) : Int.sign (a ^ i) = Int.sign a := by
  obtain ⟨j, rfl⟩ : ∃ j, i = 2 * j + 1 := ⟨i / 2, by omega⟩
  rcases Int.lt_trichotomy a 0 with h0 | rfl | h0
  · rw [Int.pow_succ, Int.sign_mul, Int.pow_mul, Int.sign_eq_one_of_pos (Int.pow_pos (by rw [Int.pow_succ, Int.pow_succ, Int.pow_zero, Int.one_mul]; exact Int.mul_pos_of_neg_of_neg h0 h0)), Int.one_mul]
  · rw [Int.zero_pow (by omega)]
  · rw [Int.sign_eq_one_of_pos (Int.pow_pos h0), Int.sign_eq_one_of_pos h0]
theorem sign_pow_even {a : Int} {i : Nat} (h : ¬ i % 2 = 1) (h0 : a ≠ 0) : Int.sign (a ^ i) = 1 := by
  obtain ⟨j, rfl⟩ : ∃ j, i = 2 * j := ⟨i / 2, by omega⟩
  rw [Int.pow_mul]
  refine Int.sign_eq_one_of_pos (Int.pow_pos ?_)
  rw [Int.pow_succ, Int.pow_succ, Int.pow_zero, Int.one_mul]
  rcases Int.lt_or_gt_of_ne h0 with h1 | h1
  · exact Int.mul_pos_of_neg_of_neg h1 h1
  · exact Int.mul_pos h1 h1
theorem rmade_B (w : World) (va : Value) (b : Bool) (xs : List Nat) (ha : Ri w va b xs) (k : Nat) (z : Int) (hz : z = (k : Int)) (hk1 : k ≤ 1000000) (y : Int) (hy : sg b (cutN xs k) = y) :
    Calls Tryz.prog 35 #[va, .int .i64 z] w fun e w' => ∃ u, e = .returned u ∧ Zn w' u y ∧ Ext w w' := by
  subst hz
  obtain ⟨A, c, e, hu⟩ := id ha
  exact rzmade w va b xs ha (k : Int) (by omega) (by omega) (cutN xs k) rfl (Nat.le_trans (cutN_len xs k hu.lim) hk1) y hy
theorem b_equ {x y : Operand} {a : Nat} {z : Int} {v : Bool} (h : ((a : Int) == z) = v) (X : World) : (do eqGuard .eql 56 x y (.int .u32 (a : Int)) (.int .u32 z); binOp .eql 56 (.int .u32 (a : Int)) (.int .u32 z) : Sem Value).run Tryz.prog X = .ok (.bool v) X := by
  subst h; go_simp
theorem Zn.negv {w : World} {p : Bool} {m : Value} {z : Int} (h : Zn w (.agg #[.bool p, m]) z) : p = decide (z < 0) := by
  obtain ⟨A', c', e, hu⟩ := h
  simp only [Value.agg.injEq, Array.mk.injEq, List.cons.injEq, Value.bool.injEq] at e
  exact e.1
theorem buildS1 {L : List Oper} {S : World → Prop} {K : List (Nat × Value) → World → Prop} {i m d : Nat} {o : Oper} {x : Operand} {r : List (Bool × Nat × Nat)} {l : List (Nat × Value)} {w : World} {n : Nat} (hn : n < 4294967296)
    (ho : Pl.nth L i = some o) (hp : o.op = .buildSlice 22 1 #[(0, x)]) (hd : o.dst = some d) (hg : Pl.gd L l o.guard = some true) (hx : Pl.opv l x = some (.int .u32 (n : Int))) (hS : ∀ Y, Ext w Y → S Y)
    (h : ∀ A w', Ext w w' → U w' (.slice A 1 1) [n] → Pl.wpA Tryz.prog L S K r ((d, .slice A 1 1) :: l) w') : Pl.wpA Tryz.prog L S K ((false, i, m) :: r) l w := by
  have e1 := (Ext.refl w).alloc (.cells #[.int .u32 (n : Int)] 56)
  refine Pl.pA_val (w' := w.alloc (.cells #[.int .u32 (n : Int)] 56)) (v := .slice (some ⟨w.heap.size, 0, none⟩) 1 1) ho hd hg (fun ρ hρ => ?_) (hS _ e1) (h _ _ e1 ?_)
  · unfold execOp; rw [hp]
    refine Pl.run_valW _ ?_
    have e := hρ.opv hx
    simp only [List.map_toArray, List.map_cons, List.map_nil]
    go_simp
  · refine ⟨some ⟨w.heap.size, 0, none⟩, 1, rfl, ⟨Nat.le_refl _, by show 1 ≤ _; decide⟩, fun x hx => ?_, fun _ => ⟨⟨w.heap.size, 0, none⟩, rfl, by simp, fun j hj => ?_⟩⟩
    · obtain rfl : x = n := by simpa using hx
      exact hn
    · obtain rfl : j = 0 := by simp at hj; omega
      have : lb [n] 0 = n := rfl
      go_simp
theorem Sz.small {z : Int} {K : Nat} (h : z.natAbs < 4294967296 ∧ 1 ≤ K) : Sz z K := Sz.lit h.1 h.2
theorem rest_val (a : Int) (k : Nat) (h : ¬ a < 0) : a % (k : Int) = sg false (val [a.natAbs % k]) := by
  rw [sg_false]
  have e : val [a.natAbs % k] = a.natAbs % k := by simp [val]
  rw [e]
  obtain ⟨n, rfl⟩ := Int.eq_ofNat_of_zero_le (show 0 ≤ a by omega)
  rfl
end Go.Proofs.YtfkcdmbiihkiiaaGreatDoor
/- Texts of whole numbers, in the walk by plans. -/
namespace Go.Proofs.YtfkcdmbiihkiiaaGreatDoor
open Go.RowKit
set_option linter.unusedVariables false
set_option maxHeartbeats 400000

section
variable {x y : Operand} {X : World}
theorem b_adds {A B U : ByteArray} (h : A ++ B = U) (hl : A.size + B.size ≤ 9223372036854775807) (X : World) : (do eqGuard .add 9 x y (.string A) (.string B); binOp .add 9 (.string A) (.string B) : Sem Value).run Tryz.prog X = .ok (.string U) X := by
  subst h; go_simp
theorem b_eqs {A B : ByteArray} (h : A = B) (X : World) : (do eqGuard .eql 9 x y (.string A) (.string B); binOp .eql 9 (.string A) (.string B) : Sem Value).run Tryz.prog X = .ok (.bool true) X := by
  subst h; go_simp
section
variable {L : List Oper} {S : World → Prop} {K : List (Nat × Value) → World → Prop} {k : Bool} {i m d : Nat} {o : Oper} {r : List (Bool × Nat × Nat)} {l : List (Nat × Value)} {w : World}
theorem qA_lens {A : ByteArray} (hS : S w) (ho : Pl.nth L i = some o) (hop : o.op = .call { callee := .builtin .len, args := #[x], argTypes := #[9] }) (hd : o.dst = some d) (hg : Pl.gd L l o.guard = some true) (hx : Pl.opv l x = some (.string A))
    (h : Pl.wpA Tryz.prog L S K r ((d, .int .i64 (A.size : Int)) :: l) w) : Pl.wpA Tryz.prog L S K ((k, i, m) :: r) l w :=
  Pl.pA_pure hS ho hd hg (fun ρ hρ X _ => by
    obtain ⟨d', op', t', ps', af', gu'⟩ := o
    cases hop
    have e := hρ.opv hx
    simp [go_sem, e]) h
theorem qA_tail {A B : ByteArray} {z : Value} (h1 : 1 ≤ A.size) (hB : A.extract 1 A.size = B) (hS : S w) (ho : Pl.nth L i = some o) (hop : o.op = .slice 9 x (some (.const (.int .i64 1))) none none) (hd : o.dst = some d) (hg : Pl.gd L l o.guard = some true) (hx : Pl.opv l x = some (.string A))
    (h : Pl.wpA Tryz.prog L S K r ((d, .string B) :: l) w) : Pl.wpA Tryz.prog L S K ((k, i, m) :: r) l w :=
  Pl.pA_pure hS ho hd hg (fun ρ hρ X _ => by
    unfold execOp; rw [hop]
    refine Pl.run_val _ X ?_
    have e1 := hρ.opv hx
    have e2 := hρ.const (.int .i64 1)
    have h2 : (1 : Int) ≤ (A.size : Int) := by omega
    subst hB
    rw [e1]
    simp only [Option.map_some, Option.map_none, e2]
    go_simp) h
end
end
theorem minus_size (S : ByteArray) : ((⟨#[45]⟩ : ByteArray) ++ S).size = S.size + 1 := by
  rw [ByteArray.size_append]; show 1 + S.size = _; omega
theorem minus_tail (S : ByteArray) : ((⟨#[45]⟩ : ByteArray) ++ S).extract 1 ((⟨#[45]⟩ : ByteArray) ++ S).size = S := by
  rw [minus_size]
  have h : (⟨#[45]⟩ : ByteArray).size = 1 := rfl
  apply ByteArray.ext
  simp [ByteArray.data_append, Array.extract_append]
def sgnS (s : Bool) (S : ByteArray) : ByteArray := if s then ⟨#[45]⟩ ++ S else S
theorem extract_all (S : ByteArray) : S.extract 0 S.size = S := by
  apply ByteArray.ext
  simp
theorem ahd_minus (S : ByteArray) : ahd ((⟨#[45]⟩ : ByteArray) ++ S) = 1 := by
  have h : 0 < ((⟨#[45]⟩ : ByteArray) ++ S).size := by rw [minus_size]; omega
  unfold ahd
  rw [dif_pos h, if_pos]
  rw [ByteArray.getElem_append_left (show 0 < (⟨#[45]⟩ : ByteArray).size by decide)]
  rfl
theorem ahd_digit (d : Nat) (ds : List Nat) (hd : d < 10) (T : ByteArray) : ahd (strD (d :: ds) ++ T) = 0 := by
  have h : 0 < (strD (d :: ds) ++ T).size := by rw [ByteArray.size_append, strD_size]; simp; omega
  unfold ahd
  rw [dif_pos h, if_neg]
  have e : (strD (d :: ds) ++ T)[0]'h = UInt8.ofNat (digB d) := by
    rw [ByteArray.getElem_append_left (by rw [strD_size]; simp)]
    rfl
  rw [e, digB_nat (by omega)]
  unfold digB
  rw [if_pos hd]
  omega
/-- A text of a sign and digits is read. -/
theorem zr_good (w : World) (s : Bool) (ds : List Nat) (n : Nat) (hd : ∀ d ∈ ds, d < 10) (h1 : 1 ≤ ds.length) (hl : ds.length ≤ 1900) (hn : bval 10 ds = n) (U : ByteArray) (hU : sgnS s (strD ds) = U) (z : Int) (hz : sg s n = z) :
    Calls Tryz.prog 36 #[.string U] w fun e w' => ∃ u, e = .returned (.tuple #[u, .int .i64 0, .int .i64 0]) ∧ Zn w' u z ∧ Ext w w' := by
  obtain ⟨d, es, rfl⟩ : ∃ d es, ds = d :: es := by
    cases ds with
    | nil => simp at h1
    | cons d es => exact ⟨d, es, rfl⟩
  have hd0 := hd d (List.mem_cons_self ..)
  have hz0 : (strD (d :: es)).size ≤ 2000 := by rw [strD_size]; omega
  have hw : worL (strD (d :: es)) = d :: es := worL_strD _ (fun x hx => by have := hd x hx; omega)
  have hA : ahd U = (if s then 1 else 0) ∧ U.extract (ahd U) U.size = strD (d :: es) ∧ U.size ≤ 1000000 := by
    cases s
    · have e : U = strD (d :: es) := hU.symm
      subst e
      have ha := ahd_digit d es hd0 ⟨#[]⟩
      rw [show strD (d :: es) ++ (⟨#[]⟩ : ByteArray) = strD (d :: es) from by apply ByteArray.ext; simp] at ha
      rw [ha]
      exact ⟨rfl, extract_all _, by omega⟩
    · have e : U = ⟨#[45]⟩ ++ strD (d :: es) := hU.symm
      subst e
      rw [ahd_minus, minus_tail, minus_size]
      exact ⟨rfl, rfl, by omega⟩
  obtain ⟨hA1, hA2, hA3⟩ := hA
  have ht := (tell_good (strD (d :: es)) 10 (by decide) (by decide) hz0 (by rw [strD_size]; simp) (by rw [hw]; exact hd)).1
  rw [hw, hn] at ht
  refine (zread_of w U hA3 (limbs n) 0 0 (by rw [hA2]; exact ht) (by decide) (fun _ => rfl)).mono fun e w' h => ?_
  obtain ⟨hE, ⟨h1, _⟩ | ⟨_, u, he, hz'⟩⟩ := h
  · exact absurd rfl h1
  · refine ⟨u, he, ?_, hE⟩
    rw [val_limbs, hA1] at hz'
    rw [← hz]
    cases s <;> exact hz'
/-- And with a sign behind it that is no digit it is none. -/
theorem zr_x (w : World) (s : Bool) (ds : List Nat) (hd : ∀ d ∈ ds, d < 10) (h1 : 1 ≤ ds.length) (hl : ds.length ≤ 1900) (U : ByteArray) (hU : sgnS s (strD ds) ++ ⟨#[120]⟩ = U) (z : Int) (hz : ((sgnS s (strD ds)).size : Int) = z) :
    Calls Tryz.prog 36 #[.string U] w fun e w' => e = .returned (.tuple #[.agg #[.bool false, .slice none 0 0], .int .i64 z, .int .i64 50]) ∧ Ext w w' := by
  obtain ⟨d, es, rfl⟩ : ∃ d es, ds = d :: es := by
    cases ds with
    | nil => simp at h1
    | cons d es => exact ⟨d, es, rfl⟩
  have hd0 := hd d (List.mem_cons_self ..)
  obtain ⟨T, hT⟩ : ∃ T, strD (d :: es) ++ ⟨#[120]⟩ = T := ⟨_, rfl⟩
  have hTs : T.size = (d :: es).length + 1 := by rw [← hT, ByteArray.size_append, strD_size]; rfl
  have hw : worL T = (d :: es) ++ [33] := by
    rw [← hT]
    unfold worL
    rw [ByteArray.data_append, Array.toList_append, List.map_append]
    have := worL_strD (d :: es) (fun x hx => by have := hd x hx; omega)
    unfold worL at this
    rw [this]; rfl
  have hA : ahd U = (if s then 1 else 0) ∧ U.extract (ahd U) U.size = T ∧ U.size ≤ 1000000 ∧ ((ahd U : Nat) : Int) + ((d :: es).length : Nat) = z := by
    cases s
    · have e : U = T := by rw [← hU, ← hT]; rfl
      subst e
      have ha := ahd_digit d es hd0 ⟨#[120]⟩
      rw [hT] at ha
      rw [ha]
      refine ⟨rfl, extract_all _, by omega, ?_⟩
      rw [← hz]
      show ((0 : Nat) : Int) + _ = ((strD (d :: es)).size : Int)
      rw [strD_size]; omega
    · have e : U = ⟨#[45]⟩ ++ T := by
        rw [← hU, ← hT]
        show (⟨#[45]⟩ ++ strD (d :: es)) ++ _ = _
        rw [ByteArray.append_assoc]
      subst e
      rw [ahd_minus, minus_tail, minus_size]
      refine ⟨rfl, rfl, by omega, ?_⟩
      rw [← hz]
      show ((1 : Nat) : Int) + _ = (((⟨#[45]⟩ : ByteArray) ++ strD (d :: es)).size : Int)
      rw [minus_size, strD_size]; omega
  obtain ⟨hA1, hA2, hA3, hA4⟩ := hA
  have ht := (tell_wrong T 10 (d :: es).length (by decide) (by decide) (by omega) (by omega) (fun j hj => by
    rw [hw]
    unfold lb
    rw [List.getElem?_append_left hj, List.getElem?_eq_getElem hj]
    exact hd _ (List.getElem_mem hj)) (by
    rw [hw]
    unfold lb
    rw [List.getElem?_append_right (Nat.le_refl _), Nat.sub_self]
    decide)).1
  refine (zread_of w U hA3 [] _ 50 (by rw [hA2]; exact ht) ⟨by omega, by simp at hl; simp; omega⟩ (fun h => by cases h)).mono fun e w' h => ?_
  obtain ⟨hE, ⟨_, he⟩ | ⟨h1, _⟩⟩ := h
  · exact ⟨by rw [he, hA4], hE⟩
  · cases h1
theorem zeros_push (i : Nat) : strD (List.replicate i 0) ++ (⟨#[48]⟩ : ByteArray) = strD (List.replicate (i + 1) 0) := by
  have e : (⟨#[48]⟩ : ByteArray) = strD [0] := rfl
  rw [e, strD_app, List.replicate_succ']
theorem zeros_read (i a : Nat) : bval 10 (List.replicate i 0 ++ dt 10 a) = a := by
  rw [bval_append, bval_zeros, Nat.zero_mul, Nat.zero_add, bval_dt 10 (by decide)]
theorem zeros_dig (i a : Nat) : ∀ d ∈ List.replicate i 0 ++ dt 10 a, d < 10 := by
  intro d hd
  rcases List.mem_append.1 hd with h | h
  · rw [List.eq_of_mem_replicate h]; decide
  · exact dt_lt 10 (by decide) a d h
theorem dt_short {a : Nat} (h : (limbs a).length ≤ 40) : (dt 10 a).length ≤ 386 := by
  refine dt_len_le 10 (by decide) a 386 (by decide) (Nat.lt_of_lt_of_le (lt_of_len_le h) ?_)
  decide +kernel
theorem zeros_len {i a : Nat} (hi : i < 9) (h : (limbs a).length ≤ 40) : 1 ≤ (List.replicate i 0 ++ dt 10 a).length ∧ (List.replicate i 0 ++ dt 10 a).length ≤ 1900 := by
  have h1 := dt_len1 10 (by decide) a
  have h2 := dt_short h
  rw [List.length_append, List.length_replicate]
  omega
theorem strZ_neg {a : Int} (h : a < 0) : strZ a = ⟨#[45]⟩ ++ strD (dt 10 a.natAbs) := if_pos h
theorem strZ_pos {a : Int} (h : ¬ a < 0) : strZ a = strD (dt 10 a.natAbs) := if_neg h
theorem sg_abs_neg {a : Int} (h : a < 0) : sg true a.natAbs = a := by rw [sg_true]; omega
theorem sg_abs_pos {a : Int} (h : ¬ a < 0) : sg false a.natAbs = a := by rw [sg_false]; omega
theorem ztextN (w : World) (va : Value) (a : Int) (ha : Zn w va a) (hl : Sz a 40) (S : ByteArray) (hS : strZ a = S) :
    Calls Tryz.prog 42 #[va] w fun e w' => e = .returned (.string S) ∧ Ext w w' := by
  subst hS; exact ztext w va a ha (Nat.le_trans hl (by decide))
end Go.Proofs.YtfkcdmbiihkiiaaGreatDoor
