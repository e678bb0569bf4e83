/- Small laws for the walk's printer (ax.py): numbers of unsigned kinds, comparisons, contracts of naturals in the printer's form. -/
import Derived.Test.YtbdmncpibnligaaGreatDoorBad
import Derived.Test.YtbdmncpibnligaaGreatDoorBau
import Derived.Test.YtbdmncpibnligaaGreatDoorBav
import Derived.Test.YtbdmncpibnligaaGreatDoorBaw
import Derived.Test.YtbdmncpibnligaaGreatDoorBae
import Derived.Scope

namespace Go.Proofs.YtbdmncpibnligaaGreatDoor
open Go.RowKit
set_option linter.unusedVariables false
set_option linter.unusedSimpArgs false
set_option maxHeartbeats 400000

theorem fo : Tryz.prog.follows .mixedOrders = true := by kernel_rfl
/-- How many limbs a natural has at most. -/
def Sn (n K : Nat) : Prop := (limbs n).length ≤ K
theorem Sn.le {n K M : Nat} (h : Sn n K) (hk : K ≤ M) : Sn n M := Nat.le_trans h hk
theorem Sn.zero {K : Nat} : Sn 0 K := by show (limbs 0).length ≤ K; rw [limbs_zero]; exact Nat.zero_le _
theorem Sn.lt {n K : Nat} (h : Sn n K) : n < 4294967296 ^ K := lt_of_len_le h
theorem Sn.of {n K : Nat} (h : n < 4294967296 ^ K) : Sn n K := len_of h
theorem Sn.down {n m K : Nat} (h : Sn n K) (hm : m ≤ n) : Sn m K := Sn.of (Nat.lt_of_le_of_lt hm h.lt)
theorem Sn.add {a b K J M : Nat} (ha : Sn a K) (hb : Sn b J) (hk : K + 1 ≤ M) (hj : J + 1 ≤ M) : Sn (a + b) M := by
  obtain ⟨m, rfl⟩ : ∃ m, M = m + 1 := ⟨M - 1, by omega⟩
  have h1 := (ha.le (show K ≤ m by omega)).lt
  have h2 := (hb.le (show J ≤ m by omega)).lt
  refine Sn.of ?_
  rw [Nat.pow_succ]
  omega
theorem Sn.mul {a b K J M : Nat} (ha : Sn a K) (hb : Sn b J) (hk : K + J ≤ M) : Sn (a * b) M := by
  refine Sn.of (Nat.lt_of_lt_of_le (Nat.mul_lt_mul'' ha.lt hb.lt) ?_)
  rw [← Nat.pow_add]
  exact Nat.pow_le_pow_right (by decide) hk
theorem Sn.mod {a b K : Nat} (h : Sn b K) (h0 : b ≠ 0) : Sn (a % b) K := h.down (Nat.le_of_lt (Nat.mod_lt _ (Nat.pos_of_ne_zero h0)))
theorem Sn.bits {n b K : Nat} (h : n < 2 ^ b) (hk : b ≤ 32 * K) : Sn n K := Sn.of (Nat.lt_of_lt_of_le h (by rw [show (4294967296 : Nat) = 2 ^ 32 from rfl, ← Nat.pow_mul]; exact Nat.pow_le_pow_right (by decide) hk))
theorem Sn.one {n K : Nat} (h : n < 4294967296) (hk : 1 ≤ K) : Sn n K := Sn.bits (b := 32) h (by omega)
theorem Sn.two {n : Nat} (h : n < 18446744073709551616) : Sn n 2 := Sn.bits (b := 64) h (by omega)
theorem Sn.blen {n K : Nat} (h : Sn n K) : blen n ≤ 32 * K := blen_le_of_lt (by rw [Nat.pow_mul, show (2 : Nat) ^ 32 = 4294967296 from rfl]; exact h.lt)
theorem Sn.bl {n b K : Nat} (h : Go.Proofs.YtbdmncpibnligaaGreatDoor.blen n ≤ b) (hk : b ≤ 32 * K) : Sn n K := Sn.bits (Nat.lt_of_lt_of_le (lt_pow_blen n) (Nat.pow_le_pow_right (by decide) h)) hk
theorem Un.as {w : World} {v : Value} {n m : Nat} (h : Un w v n) (e : n = m) : Un w v m := e ▸ h
theorem Un.one {w : World} {N : Nat} {T : TypeId} {x : Nat} {z : Int} (h : Pl.Cb w N T [.int .u32 z]) (hz : z = (x : Int)) (h0 : x ≠ 0 ∧ x < 4294967296) : Un w (.slice (some ⟨N, 0, none⟩) 1 1) x := by
  subst hz
  rw [Un, limbs_small x h0.1 h0.2]
  refine ⟨_, 1, rfl, ⟨by simp, by simp⟩, by simpa using h0.2, fun _ => ⟨_, rfl, h.lt, fun j hj => ?_⟩⟩
  have : j = 0 := by simpa using hj
  subst this
  rw [addr_add_zero]
  exact h.at (j := 0) rfl
theorem Un.nilA (w : World) (A : Option Addr) (c : Nat) : Un w (.slice A 0 c) 0 := by rw [Un, limbs_zero]; exact U.nil_ _ _ _
theorem Un.len {w : World} {A : Option Addr} {L c n : Nat} (h : Un w (.slice A L c) n) : L = (limbs n).length := by
  obtain ⟨A', c', e, _⟩ := h; injection e
theorem Un.sh {w : World} {v : Value} {n : Nat} (h : Un w v n) : ∃ A c, v = .slice A (limbs n).length c := by
  obtain ⟨A', c', e, _⟩ := h; exact ⟨A', c', e⟩
/-! Contracts. -/
theorem shrN (w : World) (v : Value) (n k : Nat) (h : Un w v n) (hk : k ≤ 1000000000) (hl : (limbs n).length ≤ 1000000000) :
    Calls Tryz.prog 39 #[v, .int .i64 ((k : Nat) : Int)] w fun e w' => ∃ u, e = .returned u ∧ Un w' u (n / 2 ^ k) ∧ Ext w w' := shr_B w v n k h (by omega) (by omega) hl _ (by rw [Int.toNat_natCast])
theorem shlN (w : World) (v : Value) (n k : Nat) (h : Un w v n) (hk : k ≤ 1000000000) (hl : (limbs n).length ≤ 1000000000) :
    Calls Tryz.prog 41 #[v, .int .i64 ((k : Nat) : Int)] w fun e w' => ∃ u, e = .returned u ∧ Un w' u (n * 2 ^ k) ∧ Ext w w' := shl_B w v n k h (by omega) (by omega) hl _ (by rw [Int.toNat_natCast])
theorem ofN (w : World) (k : Nat) (h1 : k < 18446744073709551616) :
    Calls Tryz.prog 37 #[.int .u64 ((k : Nat) : Int)] w fun e w' => ∃ u, e = .returned u ∧ Un w' u k ∧ Ext w w' := of_B w k (by omega) (by omega) _ (by rw [Int.toNat_natCast])
theorem lowY (w : World) (v : Value) (n : Nat) (h : Un w v n) (hn : n < 18446744073709551616) :
    Calls Tryz.prog 35 #[v] w fun e w' => e = .returned (.tuple #[.int .u64 ((n : Nat) : Int), .bool true]) ∧ Ext w w' :=
  low_B w v n h _ _ (by simp [lowN, hn]) (by simp [lowB, hn])
theorem lowX (w : World) (v : Value) (n : Nat) (h : Un w v n) (hn : ¬ n < 18446744073709551616) :
    Calls Tryz.prog 35 #[v] w fun e w' => ∃ z, e = .returned (.tuple #[.int .u64 z, .bool false]) ∧ Ext w w' :=
  (low_B w v n h _ _ rfl (by simp [lowB]; omega)).mono fun e w' ⟨h1, h2⟩ => ⟨_, h1, h2⟩
/-! Comparisons of what nat.Cmp tells. -/
theorem cmpI_cases (n m : Nat) : (n < m ∧ cmpI n m = -1) ∨ (n = m ∧ cmpI n m = 0) ∨ (m < n ∧ cmpI n m = 1) := by
  unfold cmpI
  rcases Nat.lt_trichotomy n m with h | h | h
  · exact .inl ⟨h, if_pos (by omega)⟩
  · exact .inr (.inl ⟨h, by rw [if_neg (by omega), if_neg (by omega)]⟩)
  · exact .inr (.inr ⟨h, by rw [if_neg (by omega), if_pos (by omega)]⟩)
section
variable {P : Program} {T : TypeId} {x y : Operand} {n m : Nat}
theorem Cm.lt_lss_t (h : n < m) (X : World) : Pl.Bn P .lss T x y (.int .i64 (cmpI n m)) (.int .i64 0) X = .ok (.bool true) X := Pl.r_lss (by have := cmpI_cases n m; rw [decide_eq_true_eq]; omega) X
theorem Cm.lt_lss_f (h : ¬ n < m) (X : World) : Pl.Bn P .lss T x y (.int .i64 (cmpI n m)) (.int .i64 0) X = .ok (.bool false) X := Pl.r_lss (by have := cmpI_cases n m; rw [decide_eq_false_iff_not]; omega) X
theorem Cm.ge_geq_t (h : m ≤ n) (X : World) : Pl.Bn P .geq T x y (.int .i64 (cmpI n m)) (.int .i64 0) X = .ok (.bool true) X := Pl.r_geq (by have := cmpI_cases n m; rw [decide_eq_true_eq]; omega) X
theorem Cm.ge_geq_f (h : ¬ m ≤ n) (X : World) : Pl.Bn P .geq T x y (.int .i64 (cmpI n m)) (.int .i64 0) X = .ok (.bool false) X := Pl.r_geq (by have := cmpI_cases n m; rw [decide_eq_false_iff_not]; omega) X
theorem Cm.le_leq_t (h : n ≤ m) (X : World) : Pl.Bn P .leq T x y (.int .i64 (cmpI n m)) (.int .i64 0) X = .ok (.bool true) X := Pl.r_leq (by have := cmpI_cases n m; rw [decide_eq_true_eq]; omega) X
theorem Cm.le_leq_f (h : ¬ n ≤ m) (X : World) : Pl.Bn P .leq T x y (.int .i64 (cmpI n m)) (.int .i64 0) X = .ok (.bool false) X := Pl.r_leq (by have := cmpI_cases n m; rw [decide_eq_false_iff_not]; omega) X
theorem Cm.gt_gtr_t (h : m < n) (X : World) : Pl.Bn P .gtr T x y (.int .i64 (cmpI n m)) (.int .i64 0) X = .ok (.bool true) X := Pl.r_gtr (by have := cmpI_cases n m; rw [decide_eq_true_eq]; omega) X
theorem Cm.gt_gtr_f (h : ¬ m < n) (X : World) : Pl.Bn P .gtr T x y (.int .i64 (cmpI n m)) (.int .i64 0) X = .ok (.bool false) X := Pl.r_gtr (by have := cmpI_cases n m; rw [decide_eq_false_iff_not]; omega) X
theorem Cm.eq_eql_t (h : n = m) (X : World) : Pl.Bn P .eql T x y (.int .i64 (cmpI n m)) (.int .i64 0) X = .ok (.bool true) X := Pl.r_eql (Pl.e_t (by have := cmpI_cases n m; omega)) X
theorem Cm.eq_eql_f (h : ¬ n = m) (X : World) : Pl.Bn P .eql T x y (.int .i64 (cmpI n m)) (.int .i64 0) X = .ok (.bool false) X := Pl.r_eql (Pl.e_f (by have := cmpI_cases n m; omega)) X
end
/-! Numbers of the kinds. -/
section
variable {P : Program} {T : TypeId} {x y : Operand} {a b : Nat} {za zb : Int}
theorem nb_add_u64 (h : a + b < 18446744073709551616) (X : World) : Pl.Bn P .add T x y (.int .u64 ((a : Nat) : Int)) (.int .u64 ((b : Nat) : Int)) X = .ok (.int .u64 ((a + b : Nat) : Int)) X := Pl.r_add (by rw [Pl.wu64 (by omega) (by omega)]; omega) X
theorem nb_add_i64 (h : a + b ≤ 9223372036854775807) (X : World) : Pl.Bn P .add T x y (.int .i64 ((a : Nat) : Int)) (.int .i64 ((b : Nat) : Int)) X = .ok (.int .i64 ((a + b : Nat) : Int)) X := Pl.r_add (Pl.a64 rfl rfl h) X
theorem nb_sub_u64 (h : b ≤ a ∧ a < 18446744073709551616) (X : World) : Pl.Bn P .sub T x y (.int .u64 ((a : Nat) : Int)) (.int .u64 ((b : Nat) : Int)) X = .ok (.int .u64 ((a - b : Nat) : Int)) X := Pl.r_sub (by rw [Pl.wu64 (by omega) (by omega)]; omega) X
theorem nb_sub_i64 (h : b ≤ a ∧ a ≤ 9223372036854775807) (X : World) : Pl.Bn P .sub T x y (.int .i64 ((a : Nat) : Int)) (.int .i64 ((b : Nat) : Int)) X = .ok (.int .i64 ((a - b : Nat) : Int)) X := Pl.r_sub (Pl.s64 rfl rfl h.1 h.2) X
theorem nb_mul_u64 (h : a * b < 18446744073709551616) (X : World) : Pl.Bn P .mul T x y (.int .u64 ((a : Nat) : Int)) (.int .u64 ((b : Nat) : Int)) X = .ok (.int .u64 ((a * b : Nat) : Int)) X := Pl.r_mul (by rw [← Int.natCast_mul, Pl.wu64 (by omega) (by omega)]) X
theorem nb_mul_i64 (h : a * b ≤ 9223372036854775807) (X : World) : Pl.Bn P .mul T x y (.int .i64 ((a : Nat) : Int)) (.int .i64 ((b : Nat) : Int)) X = .ok (.int .i64 ((a * b : Nat) : Int)) X := Pl.r_mul (by rw [← Int.natCast_mul, Pl.w64 (by omega) (by omega)]) X
theorem div_le' (a b : Nat) : a / b ≤ a := Nat.div_le_self a b
theorem nb_quo_u64 (h0 : b ≠ 0) (h : a < 18446744073709551616) (X : World) : Pl.Bn P .quo T x y (.int .u64 ((a : Nat) : Int)) (.int .u64 ((b : Nat) : Int)) X = .ok (.int .u64 ((a / b : Nat) : Int)) X := Pl.r_quo (by omega) (by rw [← Int.ofNat_tdiv]; have := div_le' a b; generalize a / b = q at *; exact Pl.wu64 (by omega) (by omega)) X
theorem nb_quo_i64 (h0 : b ≠ 0) (h : a ≤ 9223372036854775807) (X : World) : Pl.Bn P .quo T x y (.int .i64 ((a : Nat) : Int)) (.int .i64 ((b : Nat) : Int)) X = .ok (.int .i64 ((a / b : Nat) : Int)) X := Pl.r_quo (by omega) (by rw [← Int.ofNat_tdiv]; have := div_le' a b; generalize a / b = q at *; exact Pl.w64 (by omega) (by omega)) X
theorem nb_rem_u64 (h0 : b ≠ 0) (_ : a ≤ a) (X : World) : Pl.Bn P .rem T x y (.int .u64 ((a : Nat) : Int)) (.int .u64 ((b : Nat) : Int)) X = .ok (.int .u64 ((a % b : Nat) : Int)) X := Pl.r_rem (by omega) (Int.ofNat_tmod a b).symm X
theorem nb_rem_i64 (h0 : b ≠ 0) (_ : a ≤ a) (X : World) : Pl.Bn P .rem T x y (.int .i64 ((a : Nat) : Int)) (.int .i64 ((b : Nat) : Int)) X = .ok (.int .i64 ((a % b : Nat) : Int)) X := Pl.r_rem (by omega) (Int.ofNat_tmod a b).symm X
theorem Pl.Bn.as {op : BinOp} {u u' v v' : Value} (h : ∀ X, Pl.Bn P op T x y u u' X = .ok v X) (e : v = v') (X : World) : Pl.Bn P op T x y u u' X = .ok v' X := e ▸ h X
theorem nb_shl1 {m c : Nat} {k' : IntKind} (h : 2 ^ m = c) (hm : m ≤ 63) (X : World) : Pl.Bn P .shl T x y (.int .u64 1) (.int k' ((m : Nat) : Int)) X = .ok (.int .u64 ((c : Nat) : Int)) X := by
  have h2 : (2 : Nat) ^ m < 18446744073709551616 := Nat.lt_of_lt_of_le (Nat.pow_lt_pow_right (by decide) (show m < 64 by omega)) (by decide)
  have := Pl.r_shl (P := P) (T := T) (x := x) (y := y) (k := .u64) (k' := k') (n := 1) (m := m) (c := c) rfl (show m ≤ 64 by omega) (by rw [Nat.one_mul, h]; exact Pl.wu64 (by omega) (by omega)) X
  exact this
theorem nb_shr_u64 {m c : Nat} {k' : IntKind} (h : a / 2 ^ m = c) (hm : m ≤ 64) (X : World) : Pl.Bn P .shr T x y (.int .u64 ((a : Nat) : Int)) (.int k' ((m : Nat) : Int)) X = .ok (.int .u64 ((c : Nat) : Int)) X := by
  subst h; exact Pl.r_shr rfl hm X
theorem nb_or_u64 (ha : a < 2 ^ 64) (hb : b < 2 ^ 64) {c : Nat} (h : a ||| b = c) (X : World) : Pl.Bn P .or T x y (.int .u64 ((a : Nat) : Int)) (.int .u64 ((b : Nat) : Int)) X = .ok (.int .u64 ((c : Nat) : Int)) X := Pl.r_or rfl ha hb h X
theorem nb_and_u64 (ha : a < 2 ^ 64) (hb : b < 2 ^ 64) {c : Nat} (h : a &&& b = c) (X : World) : Pl.Bn P .and T x y (.int .u64 ((a : Nat) : Int)) (.int .u64 ((b : Nat) : Int)) X = .ok (.int .u64 ((c : Nat) : Int)) X := Pl.r_and rfl ha hb h X
end
theorem cutA_zero {A : Option Addr} {h c s : Nat} : Pl.cutA A 0 h c s = .slice A h c := by
  unfold Pl.cutA
  rw [Nat.zero_mul]
  have e : ∀ a : Addr, a.add 0 = a := fun a => by simp [Addr.add]
  cases A <;> simp [e]
/-! Ways out of loops and blocks. -/
section
variable {P : Program} {Q : Exit → Act → World → Prop} {n : Nat} {ds : List Deferred} {cs : List Code} {l : List (Nat × Value)} {w : World}
theorem Pl.at_ret2 {fn : Func} {R : Ending → World → Prop} {t t2 : Tmp} {v v2 : Value} {a : Act} (ha : Pl.Ag n [] a l) (hr : fn.results = #[.tmp t, .tmp t2]) (hv : Pl.look l t = some v) (hv2 : Pl.look l t2 = some v2) (h : R (.returned (.tuple #[v, v2])) w) : bodyPost P fn R .ret a w := by
  refine ⟨ha.defers, .tuple #[v, v2], ?_, h⟩
  unfold results
  rw [hr]
  have e1 : a.tmps.getD t undef = v := by rw [Array.getD_eq_getD_getElem?, ha.look t v hv]; rfl
  have e2 : a.tmps.getD t2 undef = v2 := by rw [Array.getD_eq_getD_getElem?, ha.look t2 v2 hv2]; rfl
  simp only [List.mapM_toArray, List.mapM_cons, List.mapM_nil, e1, e2]
  rfl
theorem Pl.at_V {a : Act} (ha : Pl.Ag n ds a l) (h : Pl.V P Q n ds cs l w) : Pl.Ks P Q cs .normal a w := h a ha
theorem Pl.V_exitTo {id : Nat} {cs' : List Code} (h : ∀ a, Pl.Ag n ds a l → Q (.exit id) a w) : Pl.V P Q n ds (.exit id :: cs') l w := fun a ha => wp_exit (Pl.Ks_exit (h a ha))
theorem Pl.exit_ne {id id2 : Nat} {a : Act} (hn : Nat.beq id2 id = false) (h : Q (.exit id) a w) : Exit.inBlock id2 Q (.exit id) a w := by
  have h2 : ¬ id2 = id := fun e => by subst e; simp at hn
  show (if id = id2 then Q .normal a w else Q (.exit id) a w)
  rw [if_neg (fun e => h2 e.symm)]
  exact h
theorem Pl.exit_eq {id : Nat} {a : Act} (h : Q .normal a w) : Exit.inBlock id Q (.exit id) a w := by
  show (if id = id then Q .normal a w else Q (.exit id) a w)
  rw [if_pos rfl]
  exact h
theorem Pl.V_scope {c : Code} (h : Pl.V P (Exit.noGoto (Pl.Ks P Q cs)) n ds [c] l w) : Pl.V P Q n ds (.scope c :: cs) l w := fun a ha => wp_scope_straight (h a ha)
theorem Pl.V_label {i : Nat} (h : Pl.V P Q n ds cs l w) : Pl.V P Q n ds (.label i :: cs) l w := fun a ha => wp_label (h a ha)
theorem Pl.ret_goto {a : Act} (h : Q .ret a w) : Exit.noGoto Q .ret a w := h
theorem Pl.pn_goto (hQ : ∀ c (d : Option Tmp) v a w, Q (.panic c) (a.put d v) w → Q (.panic c) a w) : ∀ c (d : Option Tmp) v a w, Exit.noGoto Q (.panic c) (a.put d v) w → Exit.noGoto Q (.panic c) a w := fun c d v a w h => hQ c d v a w h
theorem Pl.exit_then {id : Nat} {N : Act → World → Prop} {a : Act} (h : Q (.exit id) a w) : Exit.then N Q (.exit id) a w := h
end
section
variable {P : Program} {L : List Oper} {S : World → Prop} {K : List (Nat × Value) → World → Prop} {kk : Bool} {i m d : Nat} {o : Oper} {x y : Operand} {r : List (Bool × Nat × Nat)} {l : List (Nat × Value)} {w : World} {k : IntKind} {a b : Nat}
theorem qA_mn {t : Array TypeId} {c : Nat} (hc : min a b = c) (hS : S w) (ho : Pl.nth L i = some o) (hop : o.op = .call { callee := .builtin .min, args := #[x, y], argTypes := t }) (hd : o.dst = some d) (hg : Pl.gd L l o.guard = some true) (hx : Pl.opv l x = some (.int k ((a : Nat) : Int))) (hy : Pl.opv l y = some (.int k ((b : Nat) : Int)))
    (h : Pl.wpA P L S K r ((d, .int k ((c : Nat) : Int)) :: l) w) : Pl.wpA P L S K ((kk, i, m) :: r) l w :=
  Pl.pA_pure hS ho hd hg (fun ρ hρ X _ => by
    subst hc
    unfold execOp; rw [hop]
    refine Pl.run_val (Builtin.min_ _ _ (#[x, y].map ρ)) X ?_
    rw [show #[x, y].map ρ = #[.int k (a : Int), .int k (b : Int)] from by simp [hρ.opv hx, hρ.opv hy]]
    have e : ((min a b : Nat) : Int) = if (b : Int) < (a : Int) then (b : Int) else (a : Int) := by split <;> omega
    rw [e]
    exact run_min_int2 _ _ _ _ _ _ _) h
theorem qA_mx {t : Array TypeId} {c : Nat} (hc : max a b = c) (hS : S w) (ho : Pl.nth L i = some o) (hop : o.op = .call { callee := .builtin .max, args := #[x, y], argTypes := t }) (hd : o.dst = some d) (hg : Pl.gd L l o.guard = some true) (hx : Pl.opv l x = some (.int k ((a : Nat) : Int))) (hy : Pl.opv l y = some (.int k ((b : Nat) : Int)))
    (h : Pl.wpA P L S K r ((d, .int k ((c : Nat) : Int)) :: l) w) : Pl.wpA P L S K ((kk, i, m) :: r) l w :=
  Pl.pA_pure hS ho hd hg (fun ρ hρ X _ => by
    subst hc
    unfold execOp; rw [hop]
    refine Pl.run_val (Builtin.max_ _ _ (#[x, y].map ρ)) X ?_
    rw [show #[x, y].map ρ = #[.int k (a : Int), .int k (b : Int)] from by simp [hρ.opv hx, hρ.opv hy]]
    have e : ((max a b : Nat) : Int) = if (b : Int) > (a : Int) then (b : Int) else (a : Int) := by split <;> omega
    rw [e]
    exact run_max_int2 _ _ _ _ _ _ _) h
end
end Go.Proofs.YtbdmncpibnligaaGreatDoor
/- How many bits a number has. -/
namespace Go.Proofs.YtbdmncpibnligaaGreatDoor
open Go.RowKit 
set_option linter.unusedVariables false
set_option linter.unusedSimpArgs false
set_option maxRecDepth 100000
set_option maxHeartbeats 4000000
section
variable {P : Program} {L : List Oper} {S : World → Prop} {K : List (Nat × Value) → World → Prop} {kk : Bool} {i m d : Nat} {o : Oper} {x y : Operand} {r : List (Bool × Nat × Nat)} {l : List (Nat × Value)} {w : World}
theorem qA_i8 {t : TypeId} {n : Nat} {kd : IntKind} (ht : P.underlying t = some .string) (hn : n < 256) (hS : S w) (ho : Pl.nth L i = some o) (hop : o.op = .index t x y) (hd : o.dst = some d) (hg : Pl.gd L l o.guard = some true) (hx : Pl.opv l x = some (.string tab8)) (hy : Pl.opv l y = some (.int kd ((n : Nat) : Int)))
    (h : Pl.wpA P L S K r ((d, .int .u8 ((blen n : Nat) : Int)) :: l) w) : Pl.wpA P L S K ((kk, i, m) :: r) l w :=
  Pl.pA_pure hS ho hd hg (fun ρ hρ X _ => by
    unfold execOp; rw [hop]
    refine Pl.run_val _ X ?_
    rw [hρ.opv hx, hρ.opv hy]
    exact idx_tab8 t ht kd n hn X) h
end
theorem shift_len {x k y : Nat} (h : x / 2 ^ k = y) (h0 : 2 ^ k ≤ x) : blen x = k + blen y := by
  subst h
  exact blen_shift x k (Nat.pos_iff_ne_zero.1 (Nat.div_pos h0 (Nat.two_pow_pos k)))
theorem len64_all (w : World) (x : Nat) (hx : x < 18446744073709551616) :
    Calls Tryz.prog 57 #[.int .u64 ((x : Nat) : Int)] w fun e w' => e = .returned (.int .i64 ((blen x : Nat) : Int)) ∧ Pl.Ex w w' := by
  refine Pl.calls_by (n := 25) (vs := [.int .u64 ((x : Nat) : Int)]) Tryz.func57 rfl (by kernel_rfl) (by simp) ?_
  repeat refine Pl.V_seq ?_
  refine Pl.V_region (by kernel_rfl) ?_
  refine Pl.qA_go trivial rfl ?_
  refine Pl.pA_end ?_
  repeat refine Pl.V_seq ?_
  refine Pl.V_region (by kernel_rfl) ?_
  refine Pl.qA_go trivial rfl ?_
  by_cases c1 : x ≥ 4294967296
  · refine Pl.qA_b (v := .bool true) (fun X => Pl.r_geq (decide_eq_true (by omega)) X) trivial rfl rfl rfl rfl rfl rfl ?_
    refine Pl.pA_end ?_
    repeat refine Pl.V_seq ?_
    refine Pl.V_true rfl ?_
    repeat refine Pl.V_seq ?_
    refine Pl.V_region (by kernel_rfl) ?_
    obtain ⟨y2, hy2⟩ : ∃ z, x / 2 ^ 32 = z := ⟨_, rfl⟩
    have gy2 := shift_len hy2 (by omega)
    have fy2 : y2 = x / 4294967296 := by rw [← hy2]
    refine Pl.qA_go trivial rfl ?_
    refine Pl.qA_b (v := .int .u64 ((y2 : Nat) : Int)) (fun X => nb_shr_u64 hy2 (by omega) X) trivial rfl rfl rfl rfl rfl rfl ?_
    refine Pl.qA_go trivial rfl ?_
    refine Pl.pA_end ?_
    repeat refine Pl.V_seq ?_
    refine Pl.V_region (by kernel_rfl) ?_
    refine Pl.qA_go trivial rfl ?_
    refine Pl.pA_end ?_
    repeat refine Pl.V_seq ?_
    refine Pl.V_region (by kernel_rfl) ?_
    refine Pl.qA_go trivial rfl ?_
    by_cases c3 : y2 ≥ 65536
    · refine Pl.qA_b (v := .bool true) (fun X => Pl.r_geq (decide_eq_true (by omega)) X) trivial rfl rfl rfl rfl rfl rfl ?_
      refine Pl.pA_end ?_
      repeat refine Pl.V_seq ?_
      refine Pl.V_true rfl ?_
      repeat refine Pl.V_seq ?_
      refine Pl.V_region (by kernel_rfl) ?_
      obtain ⟨y4, hy4⟩ : ∃ z, y2 / 2 ^ 16 = z := ⟨_, rfl⟩
      have gy4 := shift_len hy4 (by omega)
      have fy4 : y4 = y2 / 65536 := by rw [← hy4]
      refine Pl.qA_go trivial rfl ?_
      refine Pl.qA_b (v := .int .u64 ((y4 : Nat) : Int)) (fun X => nb_shr_u64 hy4 (by omega) X) trivial rfl rfl rfl rfl rfl rfl ?_
      refine Pl.qA_go trivial rfl ?_
      refine Pl.pA_end ?_
      repeat refine Pl.V_seq ?_
      refine Pl.V_region (by kernel_rfl) ?_
      refine Pl.qA_go trivial rfl ?_
      refine Pl.qA_b (v := .int .i64 48) (fun X => nb_add_i64 (a := 32) (b := 16) (by omega) X) trivial rfl rfl rfl rfl rfl rfl ?_
      refine Pl.qA_go trivial rfl ?_
      refine Pl.pA_end ?_
      repeat refine Pl.V_seq ?_
      refine Pl.V_region (by kernel_rfl) ?_
      refine Pl.qA_go trivial rfl ?_
      by_cases c5 : y4 ≥ 256
      · refine Pl.qA_b (v := .bool true) (fun X => Pl.r_geq (decide_eq_true (by omega)) X) trivial rfl rfl rfl rfl rfl rfl ?_
        refine Pl.pA_end ?_
        repeat refine Pl.V_seq ?_
        refine Pl.V_true rfl ?_
        repeat refine Pl.V_seq ?_
        refine Pl.V_region (by kernel_rfl) ?_
        obtain ⟨y6, hy6⟩ : ∃ z, y4 / 2 ^ 8 = z := ⟨_, rfl⟩
        have gy6 := shift_len hy6 (by omega)
        have fy6 : y6 = y4 / 256 := by rw [← hy6]
        refine Pl.qA_go trivial rfl ?_
        refine Pl.qA_b (v := .int .u64 ((y6 : Nat) : Int)) (fun X => nb_shr_u64 hy6 (by omega) X) trivial rfl rfl rfl rfl rfl rfl ?_
        refine Pl.qA_go trivial rfl ?_
        refine Pl.pA_end ?_
        repeat refine Pl.V_seq ?_
        refine Pl.V_region (by kernel_rfl) ?_
        refine Pl.qA_go trivial rfl ?_
        refine Pl.qA_b (v := .int .i64 56) (fun X => nb_add_i64 (a := 48) (b := 8) (by omega) X) trivial rfl rfl rfl rfl rfl rfl ?_
        refine Pl.qA_go trivial rfl ?_
        refine Pl.pA_end ?_
        repeat refine Pl.V_seq ?_
        refine Pl.V_region (by kernel_rfl) ?_
        have hb8 : blen y6 ≤ 8 := blen_le_of_lt (by omega)
        refine Pl.qA_go trivial rfl ?_
        refine Pl.qA_cv (c := ((y6 : Nat) : Int)) Tryz.underlying5 (by kernel_rfl) (Pl.c_id (a := y6) rfl (Pl.w8 (by omega) (by omega))) trivial rfl rfl rfl rfl rfl ?_
        refine qA_i8 (n := y6) Tryz.underlying9 (by omega) trivial rfl rfl rfl rfl (by rw [← tab8_eq]; rfl) rfl ?_
        refine Pl.qA_cv (c := (((blen y6) : Nat) : Int)) Tryz.underlying3 (by kernel_rfl) (Pl.c_id (a := (blen y6)) rfl (Pl.w64 (by omega) (by omega))) trivial rfl rfl rfl rfl rfl ?_
        refine Pl.qA_b (v := .int .i64 (((56 + (blen y6)) : Nat) : Int)) (fun X => nb_add_i64 (a := 56) (b := (blen y6)) (by omega) X) trivial rfl rfl rfl rfl rfl rfl ?_
        refine Pl.qA_go trivial rfl ?_
        refine Pl.pA_end ?_
        repeat refine Pl.V_seq ?_
        exact Pl.post_ret rfl rfl  (⟨by congr 3; omega, (Pl.Ex.refl _)⟩)
      · refine Pl.qA_b (v := .bool false) (fun X => Pl.r_geq (decide_eq_false (by omega)) X) trivial rfl rfl rfl rfl rfl rfl ?_
        refine Pl.pA_end ?_
        repeat refine Pl.V_seq ?_
        refine Pl.V_false rfl ?_
        repeat refine Pl.V_seq ?_
        refine Pl.V_skip ?_
        repeat refine Pl.V_seq ?_
        refine Pl.V_region (by kernel_rfl) ?_
        have hb8 : blen y4 ≤ 8 := blen_le_of_lt (by omega)
        refine Pl.qA_go trivial rfl ?_
        refine Pl.qA_cv (c := ((y4 : Nat) : Int)) Tryz.underlying5 (by kernel_rfl) (Pl.c_id (a := y4) rfl (Pl.w8 (by omega) (by omega))) trivial rfl rfl rfl rfl rfl ?_
        refine qA_i8 (n := y4) Tryz.underlying9 (by omega) trivial rfl rfl rfl rfl (by rw [← tab8_eq]; rfl) rfl ?_
        refine Pl.qA_cv (c := (((blen y4) : Nat) : Int)) Tryz.underlying3 (by kernel_rfl) (Pl.c_id (a := (blen y4)) rfl (Pl.w64 (by omega) (by omega))) trivial rfl rfl rfl rfl rfl ?_
        refine Pl.qA_b (v := .int .i64 (((48 + (blen y4)) : Nat) : Int)) (fun X => nb_add_i64 (a := 48) (b := (blen y4)) (by omega) X) trivial rfl rfl rfl rfl rfl rfl ?_
        refine Pl.qA_go trivial rfl ?_
        refine Pl.pA_end ?_
        repeat refine Pl.V_seq ?_
        exact Pl.post_ret rfl rfl  (⟨by congr 3; omega, (Pl.Ex.refl _)⟩)
    · refine Pl.qA_b (v := .bool false) (fun X => Pl.r_geq (decide_eq_false (by omega)) X) trivial rfl rfl rfl rfl rfl rfl ?_
      refine Pl.pA_end ?_
      repeat refine Pl.V_seq ?_
      refine Pl.V_false rfl ?_
      repeat refine Pl.V_seq ?_
      refine Pl.V_skip ?_
      repeat refine Pl.V_seq ?_
      refine Pl.V_region (by kernel_rfl) ?_
      refine Pl.qA_go trivial rfl ?_
      by_cases c4 : y2 ≥ 256
      · refine Pl.qA_b (v := .bool true) (fun X => Pl.r_geq (decide_eq_true (by omega)) X) trivial rfl rfl rfl rfl rfl rfl ?_
        refine Pl.pA_end ?_
        repeat refine Pl.V_seq ?_
        refine Pl.V_true rfl ?_
        repeat refine Pl.V_seq ?_
        refine Pl.V_region (by kernel_rfl) ?_
        obtain ⟨y5, hy5⟩ : ∃ z, y2 / 2 ^ 8 = z := ⟨_, rfl⟩
        have gy5 := shift_len hy5 (by omega)
        have fy5 : y5 = y2 / 256 := by rw [← hy5]
        refine Pl.qA_go trivial rfl ?_
        refine Pl.qA_b (v := .int .u64 ((y5 : Nat) : Int)) (fun X => nb_shr_u64 hy5 (by omega) X) trivial rfl rfl rfl rfl rfl rfl ?_
        refine Pl.qA_go trivial rfl ?_
        refine Pl.pA_end ?_
        repeat refine Pl.V_seq ?_
        refine Pl.V_region (by kernel_rfl) ?_
        refine Pl.qA_go trivial rfl ?_
        refine Pl.qA_b (v := .int .i64 40) (fun X => nb_add_i64 (a := 32) (b := 8) (by omega) X) trivial rfl rfl rfl rfl rfl rfl ?_
        refine Pl.qA_go trivial rfl ?_
        refine Pl.pA_end ?_
        repeat refine Pl.V_seq ?_
        refine Pl.V_region (by kernel_rfl) ?_
        have hb8 : blen y5 ≤ 8 := blen_le_of_lt (by omega)
        refine Pl.qA_go trivial rfl ?_
        refine Pl.qA_cv (c := ((y5 : Nat) : Int)) Tryz.underlying5 (by kernel_rfl) (Pl.c_id (a := y5) rfl (Pl.w8 (by omega) (by omega))) trivial rfl rfl rfl rfl rfl ?_
        refine qA_i8 (n := y5) Tryz.underlying9 (by omega) trivial rfl rfl rfl rfl (by rw [← tab8_eq]; rfl) rfl ?_
        refine Pl.qA_cv (c := (((blen y5) : Nat) : Int)) Tryz.underlying3 (by kernel_rfl) (Pl.c_id (a := (blen y5)) rfl (Pl.w64 (by omega) (by omega))) trivial rfl rfl rfl rfl rfl ?_
        refine Pl.qA_b (v := .int .i64 (((40 + (blen y5)) : Nat) : Int)) (fun X => nb_add_i64 (a := 40) (b := (blen y5)) (by omega) X) trivial rfl rfl rfl rfl rfl rfl ?_
        refine Pl.qA_go trivial rfl ?_
        refine Pl.pA_end ?_
        repeat refine Pl.V_seq ?_
        exact Pl.post_ret rfl rfl  (⟨by congr 3; omega, (Pl.Ex.refl _)⟩)
      · refine Pl.qA_b (v := .bool false) (fun X => Pl.r_geq (decide_eq_false (by omega)) X) trivial rfl rfl rfl rfl rfl rfl ?_
        refine Pl.pA_end ?_
        repeat refine Pl.V_seq ?_
        refine Pl.V_false rfl ?_
        repeat refine Pl.V_seq ?_
        refine Pl.V_skip ?_
        repeat refine Pl.V_seq ?_
        refine Pl.V_region (by kernel_rfl) ?_
        have hb8 : blen y2 ≤ 8 := blen_le_of_lt (by omega)
        refine Pl.qA_go trivial rfl ?_
        refine Pl.qA_cv (c := ((y2 : Nat) : Int)) Tryz.underlying5 (by kernel_rfl) (Pl.c_id (a := y2) rfl (Pl.w8 (by omega) (by omega))) trivial rfl rfl rfl rfl rfl ?_
        refine qA_i8 (n := y2) Tryz.underlying9 (by omega) trivial rfl rfl rfl rfl (by rw [← tab8_eq]; rfl) rfl ?_
        refine Pl.qA_cv (c := (((blen y2) : Nat) : Int)) Tryz.underlying3 (by kernel_rfl) (Pl.c_id (a := (blen y2)) rfl (Pl.w64 (by omega) (by omega))) trivial rfl rfl rfl rfl rfl ?_
        refine Pl.qA_b (v := .int .i64 (((32 + (blen y2)) : Nat) : Int)) (fun X => nb_add_i64 (a := 32) (b := (blen y2)) (by omega) X) trivial rfl rfl rfl rfl rfl rfl ?_
        refine Pl.qA_go trivial rfl ?_
        refine Pl.pA_end ?_
        repeat refine Pl.V_seq ?_
        exact Pl.post_ret rfl rfl  (⟨by congr 3; omega, (Pl.Ex.refl _)⟩)
  · refine Pl.qA_b (v := .bool false) (fun X => Pl.r_geq (decide_eq_false (by omega)) X) trivial rfl rfl rfl rfl rfl rfl ?_
    refine Pl.pA_end ?_
    repeat refine Pl.V_seq ?_
    refine Pl.V_false rfl ?_
    repeat refine Pl.V_seq ?_
    refine Pl.V_skip ?_
    repeat refine Pl.V_seq ?_
    refine Pl.V_region (by kernel_rfl) ?_
    refine Pl.qA_go trivial rfl ?_
    by_cases c2 : x ≥ 65536
    · refine Pl.qA_b (v := .bool true) (fun X => Pl.r_geq (decide_eq_true (by omega)) X) trivial rfl rfl rfl rfl rfl rfl ?_
      refine Pl.pA_end ?_
      repeat refine Pl.V_seq ?_
      refine Pl.V_true rfl ?_
      repeat refine Pl.V_seq ?_
      refine Pl.V_region (by kernel_rfl) ?_
      obtain ⟨y3, hy3⟩ : ∃ z, x / 2 ^ 16 = z := ⟨_, rfl⟩
      have gy3 := shift_len hy3 (by omega)
      have fy3 : y3 = x / 65536 := by rw [← hy3]
      refine Pl.qA_go trivial rfl ?_
      refine Pl.qA_b (v := .int .u64 ((y3 : Nat) : Int)) (fun X => nb_shr_u64 hy3 (by omega) X) trivial rfl rfl rfl rfl rfl rfl ?_
      refine Pl.qA_go trivial rfl ?_
      refine Pl.pA_end ?_
      repeat refine Pl.V_seq ?_
      refine Pl.V_region (by kernel_rfl) ?_
      refine Pl.qA_go trivial rfl ?_
      refine Pl.qA_b (v := .int .i64 16) (fun X => nb_add_i64 (a := 0) (b := 16) (by omega) X) trivial rfl rfl rfl rfl rfl rfl ?_
      refine Pl.qA_go trivial rfl ?_
      refine Pl.pA_end ?_
      repeat refine Pl.V_seq ?_
      refine Pl.V_region (by kernel_rfl) ?_
      refine Pl.qA_go trivial rfl ?_
      by_cases c4 : y3 ≥ 256
      · refine Pl.qA_b (v := .bool true) (fun X => Pl.r_geq (decide_eq_true (by omega)) X) trivial rfl rfl rfl rfl rfl rfl ?_
        refine Pl.pA_end ?_
        repeat refine Pl.V_seq ?_
        refine Pl.V_true rfl ?_
        repeat refine Pl.V_seq ?_
        refine Pl.V_region (by kernel_rfl) ?_
        obtain ⟨y5, hy5⟩ : ∃ z, y3 / 2 ^ 8 = z := ⟨_, rfl⟩
        have gy5 := shift_len hy5 (by omega)
        have fy5 : y5 = y3 / 256 := by rw [← hy5]
        refine Pl.qA_go trivial rfl ?_
        refine Pl.qA_b (v := .int .u64 ((y5 : Nat) : Int)) (fun X => nb_shr_u64 hy5 (by omega) X) trivial rfl rfl rfl rfl rfl rfl ?_
        refine Pl.qA_go trivial rfl ?_
        refine Pl.pA_end ?_
        repeat refine Pl.V_seq ?_
        refine Pl.V_region (by kernel_rfl) ?_
        refine Pl.qA_go trivial rfl ?_
        refine Pl.qA_b (v := .int .i64 24) (fun X => nb_add_i64 (a := 16) (b := 8) (by omega) X) trivial rfl rfl rfl rfl rfl rfl ?_
        refine Pl.qA_go trivial rfl ?_
        refine Pl.pA_end ?_
        repeat refine Pl.V_seq ?_
        refine Pl.V_region (by kernel_rfl) ?_
        have hb8 : blen y5 ≤ 8 := blen_le_of_lt (by omega)
        refine Pl.qA_go trivial rfl ?_
        refine Pl.qA_cv (c := ((y5 : Nat) : Int)) Tryz.underlying5 (by kernel_rfl) (Pl.c_id (a := y5) rfl (Pl.w8 (by omega) (by omega))) trivial rfl rfl rfl rfl rfl ?_
        refine qA_i8 (n := y5) Tryz.underlying9 (by omega) trivial rfl rfl rfl rfl (by rw [← tab8_eq]; rfl) rfl ?_
        refine Pl.qA_cv (c := (((blen y5) : Nat) : Int)) Tryz.underlying3 (by kernel_rfl) (Pl.c_id (a := (blen y5)) rfl (Pl.w64 (by omega) (by omega))) trivial rfl rfl rfl rfl rfl ?_
        refine Pl.qA_b (v := .int .i64 (((24 + (blen y5)) : Nat) : Int)) (fun X => nb_add_i64 (a := 24) (b := (blen y5)) (by omega) X) trivial rfl rfl rfl rfl rfl rfl ?_
        refine Pl.qA_go trivial rfl ?_
        refine Pl.pA_end ?_
        repeat refine Pl.V_seq ?_
        exact Pl.post_ret rfl rfl  (⟨by congr 3; omega, (Pl.Ex.refl _)⟩)
      · refine Pl.qA_b (v := .bool false) (fun X => Pl.r_geq (decide_eq_false (by omega)) X) trivial rfl rfl rfl rfl rfl rfl ?_
        refine Pl.pA_end ?_
        repeat refine Pl.V_seq ?_
        refine Pl.V_false rfl ?_
        repeat refine Pl.V_seq ?_
        refine Pl.V_skip ?_
        repeat refine Pl.V_seq ?_
        refine Pl.V_region (by kernel_rfl) ?_
        have hb8 : blen y3 ≤ 8 := blen_le_of_lt (by omega)
        refine Pl.qA_go trivial rfl ?_
        refine Pl.qA_cv (c := ((y3 : Nat) : Int)) Tryz.underlying5 (by kernel_rfl) (Pl.c_id (a := y3) rfl (Pl.w8 (by omega) (by omega))) trivial rfl rfl rfl rfl rfl ?_
        refine qA_i8 (n := y3) Tryz.underlying9 (by omega) trivial rfl rfl rfl rfl (by rw [← tab8_eq]; rfl) rfl ?_
        refine Pl.qA_cv (c := (((blen y3) : Nat) : Int)) Tryz.underlying3 (by kernel_rfl) (Pl.c_id (a := (blen y3)) rfl (Pl.w64 (by omega) (by omega))) trivial rfl rfl rfl rfl rfl ?_
        refine Pl.qA_b (v := .int .i64 (((16 + (blen y3)) : Nat) : Int)) (fun X => nb_add_i64 (a := 16) (b := (blen y3)) (by omega) X) trivial rfl rfl rfl rfl rfl rfl ?_
        refine Pl.qA_go trivial rfl ?_
        refine Pl.pA_end ?_
        repeat refine Pl.V_seq ?_
        exact Pl.post_ret rfl rfl  (⟨by congr 3; omega, (Pl.Ex.refl _)⟩)
    · refine Pl.qA_b (v := .bool false) (fun X => Pl.r_geq (decide_eq_false (by omega)) X) trivial rfl rfl rfl rfl rfl rfl ?_
      refine Pl.pA_end ?_
      repeat refine Pl.V_seq ?_
      refine Pl.V_false rfl ?_
      repeat refine Pl.V_seq ?_
      refine Pl.V_skip ?_
      repeat refine Pl.V_seq ?_
      refine Pl.V_region (by kernel_rfl) ?_
      refine Pl.qA_go trivial rfl ?_
      by_cases c3 : x ≥ 256
      · refine Pl.qA_b (v := .bool true) (fun X => Pl.r_geq (decide_eq_true (by omega)) X) trivial rfl rfl rfl rfl rfl rfl ?_
        refine Pl.pA_end ?_
        repeat refine Pl.V_seq ?_
        refine Pl.V_true rfl ?_
        repeat refine Pl.V_seq ?_
        refine Pl.V_region (by kernel_rfl) ?_
        obtain ⟨y4, hy4⟩ : ∃ z, x / 2 ^ 8 = z := ⟨_, rfl⟩
        have gy4 := shift_len hy4 (by omega)
        have fy4 : y4 = x / 256 := by rw [← hy4]
        refine Pl.qA_go trivial rfl ?_
        refine Pl.qA_b (v := .int .u64 ((y4 : Nat) : Int)) (fun X => nb_shr_u64 hy4 (by omega) X) trivial rfl rfl rfl rfl rfl rfl ?_
        refine Pl.qA_go trivial rfl ?_
        refine Pl.pA_end ?_
        repeat refine Pl.V_seq ?_
        refine Pl.V_region (by kernel_rfl) ?_
        refine Pl.qA_go trivial rfl ?_
        refine Pl.qA_b (v := .int .i64 8) (fun X => nb_add_i64 (a := 0) (b := 8) (by omega) X) trivial rfl rfl rfl rfl rfl rfl ?_
        refine Pl.qA_go trivial rfl ?_
        refine Pl.pA_end ?_
        repeat refine Pl.V_seq ?_
        refine Pl.V_region (by kernel_rfl) ?_
        have hb8 : blen y4 ≤ 8 := blen_le_of_lt (by omega)
        refine Pl.qA_go trivial rfl ?_
        refine Pl.qA_cv (c := ((y4 : Nat) : Int)) Tryz.underlying5 (by kernel_rfl) (Pl.c_id (a := y4) rfl (Pl.w8 (by omega) (by omega))) trivial rfl rfl rfl rfl rfl ?_
        refine qA_i8 (n := y4) Tryz.underlying9 (by omega) trivial rfl rfl rfl rfl (by rw [← tab8_eq]; rfl) rfl ?_
        refine Pl.qA_cv (c := (((blen y4) : Nat) : Int)) Tryz.underlying3 (by kernel_rfl) (Pl.c_id (a := (blen y4)) rfl (Pl.w64 (by omega) (by omega))) trivial rfl rfl rfl rfl rfl ?_
        refine Pl.qA_b (v := .int .i64 (((8 + (blen y4)) : Nat) : Int)) (fun X => nb_add_i64 (a := 8) (b := (blen y4)) (by omega) X) trivial rfl rfl rfl rfl rfl rfl ?_
        refine Pl.qA_go trivial rfl ?_
        refine Pl.pA_end ?_
        repeat refine Pl.V_seq ?_
        exact Pl.post_ret rfl rfl  (⟨by congr 3; omega, (Pl.Ex.refl _)⟩)
      · refine Pl.qA_b (v := .bool false) (fun X => Pl.r_geq (decide_eq_false (by omega)) X) trivial rfl rfl rfl rfl rfl rfl ?_
        refine Pl.pA_end ?_
        repeat refine Pl.V_seq ?_
        refine Pl.V_false rfl ?_
        repeat refine Pl.V_seq ?_
        refine Pl.V_skip ?_
        repeat refine Pl.V_seq ?_
        refine Pl.V_region (by kernel_rfl) ?_
        have hb8 : blen x ≤ 8 := blen_le_of_lt (by omega)
        refine Pl.qA_go trivial rfl ?_
        refine Pl.qA_cv (c := ((x : Nat) : Int)) Tryz.underlying5 (by kernel_rfl) (Pl.c_id (a := x) rfl (Pl.w8 (by omega) (by omega))) trivial rfl rfl rfl rfl rfl ?_
        refine qA_i8 (n := x) Tryz.underlying9 (by omega) trivial rfl rfl rfl rfl (by rw [← tab8_eq]; rfl) rfl ?_
        refine Pl.qA_cv (c := (((blen x) : Nat) : Int)) Tryz.underlying3 (by kernel_rfl) (Pl.c_id (a := (blen x)) rfl (Pl.w64 (by omega) (by omega))) trivial rfl rfl rfl rfl rfl ?_
        refine Pl.qA_b (v := .int .i64 (((0 + (blen x)) : Nat) : Int)) (fun X => nb_add_i64 (a := 0) (b := (blen x)) (by omega) X) trivial rfl rfl rfl rfl rfl rfl ?_
        refine Pl.qA_go trivial rfl ?_
        refine Pl.pA_end ?_
        repeat refine Pl.V_seq ?_
        exact Pl.post_ret rfl rfl  (⟨by congr 3; omega, (Pl.Ex.refl _)⟩)
theorem len_all (w : World) (x : Nat) (hx : x < 18446744073709551616) :
    Calls Tryz.prog 54 #[.int .u64 ((x : Nat) : Int)] w fun e w' => e = .returned (.int .i64 ((blen x : Nat) : Int)) ∧ Pl.Ex w w' := by
  refine Pl.calls_by (n := 8) (vs := [.int .u64 ((x : Nat) : Int)]) Tryz.func54 rfl (by kernel_rfl) (by simp) ?_
  repeat refine Pl.V_seq ?_
  refine Pl.V_region (by kernel_rfl) ?_
  refine Pl.qA_go trivial rfl ?_
  refine Pl.pA_end ?_
  repeat refine Pl.V_seq ?_
  refine Pl.V_false rfl ?_
  repeat refine Pl.V_seq ?_
  refine Pl.V_skip ?_
  repeat refine Pl.V_seq ?_
  refine Pl.V_region (by kernel_rfl) ?_
  refine Pl.qA_go trivial rfl ?_
  refine Pl.pA_call rfl rfl rfl rfl rfl (fun u X => Pl.enters Tryz.func57 (by kernel_rfl) rfl u X) ?_
  refine Calls.mono (len64_all _ x (by omega)) ?_
  rintro e w1 ⟨rfl, hE1⟩
  have sz1 := Pl.Ex.size hE1
  refine ⟨_, rfl, trivial, ?_⟩
  refine Pl.qA_go trivial rfl ?_
  refine Pl.pA_end ?_
  repeat refine Pl.V_seq ?_
  exact Pl.post_ret rfl rfl  (⟨rfl, hE1⟩)
end Go.Proofs.YtbdmncpibnligaaGreatDoor
