/- Steps for any program: numbers, slices. -/
import Derived.Test.YtmioaeaobefphaaDoorBab
import Derived.Deep.MidRow
import Derived.Deep.WholeRow
import Derived.Laws.CopyOwn
import Derived.WalkKit

namespace Go.Proofs.YtmioaeaobefphaaDoor.Pl
open Go
set_option linter.unusedVariables false
set_option linter.unusedSimpArgs false

/-! Steps for any program: numbers, slices, memory. -/
theorem w64 {z : Int} (h1 : -9223372036854775808 ≤ z) (h2 : z ≤ 9223372036854775807) : IntKind.i64.wrap z = z := by
  simp only [IntKind.wrap, IntKind.signed, IntKind.bits, Bool.true_and]; simp; split <;> omega
theorem w8 {z : Int} (h1 : 0 ≤ z) (h2 : z < 256) : IntKind.u8.wrap z = z := by
  simp only [IntKind.wrap, IntKind.signed, IntKind.bits]; simp; omega
theorem w16 {z : Int} (h1 : 0 ≤ z) (h2 : z < 65536) : IntKind.u16.wrap z = z := by
  simp only [IntKind.wrap, IntKind.signed, IntKind.bits]; simp; omega
theorem w32 {z : Int} (h1 : 0 ≤ z) (h2 : z < 4294967296) : IntKind.u32.wrap z = z := by
  simp only [IntKind.wrap, IntKind.signed, IntKind.bits]; simp; omega
theorem wu64 {z : Int} (h1 : 0 ≤ z) (h2 : z < 18446744073709551616) : IntKind.u64.wrap z = z := by
  simp only [IntKind.wrap, IntKind.signed, IntKind.bits]; simp; omega
theorem w8m {z : Int} : IntKind.u8.wrap z = z % 256 := by
  simp only [IntKind.wrap, IntKind.signed, IntKind.bits]; simp
theorem w16m {z : Int} : IntKind.u16.wrap z = z % 65536 := by
  simp only [IntKind.wrap, IntKind.signed, IntKind.bits]; simp
theorem w32m {z : Int} : IntKind.u32.wrap z = z % 4294967296 := by
  simp only [IntKind.wrap, IntKind.signed, IntKind.bits]; simp
section
variable {P : Program} {T : TypeId} {x y : Operand} {k k' : IntKind} {a b c : Int} {v : Bool}
abbrev Bn (P : Program) (op : BinOp) (T : TypeId) (x y : Operand) (u u' : Value) (X : World) : Result Value := (do eqGuard op T x y u u'; binOp op T u u' : Sem Value).run P X
theorem r_add (h : k.wrap (a + b) = c) (X : World) : Bn P .add T x y (.int k a) (.int k b) X = .ok (.int k c) X := by
  subst h; simp [Bn, eqGuard, binOp, Op.intArith]
theorem r_sub (h : k.wrap (a - b) = c) (X : World) : Bn P .sub T x y (.int k a) (.int k b) X = .ok (.int k c) X := by
  subst h; simp [Bn, eqGuard, binOp, Op.intArith]
theorem r_mul (h : k.wrap (a * b) = c) (X : World) : Bn P .mul T x y (.int k a) (.int k b) X = .ok (.int k c) X := by
  subst h; simp [Bn, eqGuard, binOp, Op.intArith]
theorem r_quo (h0 : b ≠ 0) (h : k.wrap (a.tdiv b) = c) (X : World) : Bn P .quo T x y (.int k a) (.int k b) X = .ok (.int k c) X := by
  subst h; simp [Bn, eqGuard, binOp, Op.intDiv, h0]
theorem r_rem (h0 : b ≠ 0) (h : a.tmod b = c) (X : World) : Bn P .rem T x y (.int k a) (.int k b) X = .ok (.int k c) X := by
  subst h; simp [Bn, eqGuard, binOp, Op.intDiv, h0]
theorem r_eql (h : (a == b) = v) (X : World) : Bn P .eql T x y (.int k a) (.int k b) X = .ok (.bool v) X := by
  subst h; simp [Bn, eqGuard, binOp, Op.intCmp]
theorem r_neq (h : (a != b) = v) (X : World) : Bn P .neq T x y (.int k a) (.int k b) X = .ok (.bool v) X := by
  subst h; simp [Bn, eqGuard, binOp, Op.intCmp]
theorem r_lss (h : decide (a < b) = v) (X : World) : Bn P .lss T x y (.int k a) (.int k b) X = .ok (.bool v) X := by
  subst h; simp [Bn, eqGuard, binOp, Op.intCmp]
theorem r_leq (h : decide (a ≤ b) = v) (X : World) : Bn P .leq T x y (.int k a) (.int k b) X = .ok (.bool v) X := by
  subst h; simp [Bn, eqGuard, binOp, Op.intCmp]
theorem r_gtr (h : decide (b < a) = v) (X : World) : Bn P .gtr T x y (.int k a) (.int k b) X = .ok (.bool v) X := by
  subst h; simp [Bn, eqGuard, binOp, Op.intCmp]
theorem r_geq (h : decide (b ≤ a) = v) (X : World) : Bn P .geq T x y (.int k a) (.int k b) X = .ok (.bool v) X := by
  subst h; simp [Bn, eqGuard, binOp, Op.intCmp]
theorem r_shr {n m : Nat} (hm : (m : Int) = b) (hk : m ≤ k.bits) (X : World) : Bn P .shr T x y (.int k ((n : Nat) : Int)) (.int k' b) X = .ok (.int k ((n / 2 ^ m : Nat) : Int)) X := by
  subst hm
  have e : ((n : Int)).fdiv (2 ^ m) = ((n / 2 ^ m : Nat) : Int) := by
    rw [Int.fdiv_eq_ediv_of_nonneg _ (by exact_mod_cast Nat.zero_le _)]; push_cast; rfl
  have h0 : ¬ ((m : Int) < 0) := by omega
  simp [Bn, eqGuard, binOp, Op.shift, h0, Nat.min_eq_left hk, e]
theorem r_shl {n m c : Nat} (hm : (m : Int) = b) (hk : m ≤ k.bits) (h : k.wrap ((n * 2 ^ m : Nat) : Int) = ((c : Nat) : Int)) (X : World) : Bn P .shl T x y (.int k ((n : Nat) : Int)) (.int k' b) X = .ok (.int k ((c : Nat) : Int)) X := by
  subst hm
  have h0 : ¬ ((m : Int) < 0) := by omega
  rw [← h]
  push_cast
  simp [Bn, eqGuard, binOp, Op.shift, h0, Nat.min_eq_left hk]
end
section
variable {P : Program} {T : TypeId} {x y : Operand} {a b c : Nat}
theorem bn_and (op : BinOp) (h : op = .and ∨ op = .or ∨ op = .xor) (k : IntKind) (hs : k.signed = false) (ha : a < 2 ^ k.bits) (hb : b < 2 ^ k.bits) (f : Nat → Nat → Nat)
    (hf : (op = .and → f = (· &&& ·)) ∧ (op = .or → f = (· ||| ·)) ∧ (op = .xor → f = (· ^^^ ·))) (X : World) : Bn P op T x y (.int k (a : Int)) (.int k (b : Int)) X = .ok (.int k ((f a b : Nat) : Int)) X := by
  have ea : (BitVec.ofInt k.bits (a : Int)).toNat = a := by rw [BitVec.ofInt_natCast, BitVec.toNat_ofNat, Nat.mod_eq_of_lt ha]
  have eb : (BitVec.ofInt k.bits (b : Int)).toNat = b := by rw [BitVec.ofInt_natCast, BitVec.toNat_ofNat, Nat.mod_eq_of_lt hb]
  have hw : ∀ n : Nat, n < 2 ^ k.bits → k.wrap (n : Int) = (n : Int) := fun n hn => by
    have h2 : ((n : Int)) % (2 ^ k.bits : Int) = (n : Int) := Int.emod_eq_of_lt (by omega) (by exact_mod_cast hn)
    simp [IntKind.wrap, hs, h2]
  rcases h with rfl | rfl | rfl
  · rw [hf.1 rfl]
    simp only [Bn, eqGuard, binOp, Op.intBits]
    simp [Nat.mod_eq_of_lt ha, Nat.mod_eq_of_lt hb, hw _ (Nat.lt_of_le_of_lt Nat.and_le_left ha)]
  · rw [hf.2.1 rfl]
    simp only [Bn, eqGuard, binOp, Op.intBits]
    simp [Nat.mod_eq_of_lt ha, Nat.mod_eq_of_lt hb, hw _ (Nat.or_lt_two_pow ha hb)]
  · rw [hf.2.2 rfl]
    simp only [Bn, eqGuard, binOp, Op.intBits]
    simp [Nat.mod_eq_of_lt ha, Nat.mod_eq_of_lt hb, hw _ (Nat.xor_lt_two_pow ha hb)]
theorem r_and {k : IntKind} (hs : k.signed = false) (ha : a < 2 ^ k.bits) (hb : b < 2 ^ k.bits) (h : a &&& b = c) (X : World) : Bn P .and T x y (.int k (a : Int)) (.int k (b : Int)) X = .ok (.int k ((c : Nat) : Int)) X := by
  subst h; exact bn_and .and (.inl rfl) k hs ha hb _ ⟨fun _ => rfl, fun h => by (cases h), fun h => by (cases h)⟩ X
theorem r_or {k : IntKind} (hs : k.signed = false) (ha : a < 2 ^ k.bits) (hb : b < 2 ^ k.bits) (h : a ||| b = c) (X : World) : Bn P .or T x y (.int k (a : Int)) (.int k (b : Int)) X = .ok (.int k ((c : Nat) : Int)) X := by
  subst h; exact bn_and .or (.inr (.inl rfl)) k hs ha hb _ ⟨fun h => by (cases h), fun _ => rfl, fun h => by (cases h)⟩ X
theorem r_xor {k : IntKind} (hs : k.signed = false) (ha : a < 2 ^ k.bits) (hb : b < 2 ^ k.bits) (h : a ^^^ b = c) (X : World) : Bn P .xor T x y (.int k (a : Int)) (.int k (b : Int)) X = .ok (.int k ((c : Nat) : Int)) X := by
  subst h; exact bn_and .xor (.inr (.inr rfl)) k hs ha hb _ ⟨fun h => by (cases h), fun h => by (cases h), fun _ => rfl⟩ X
end
/-! Operations whose value follows from what is known alone. -/
def rho (l : List (Nat × Value)) (x : Operand) : Value := (opv l x).getD undef
/-- All that the operation asks is known. -/
def known (l : List (Nat × Value)) : Op → Bool
  | .unOp _ _ x => (opv l x).isSome
  | .binOp _ _ x y _ => (opv l x).isSome && (opv l y).isSome
  | .convert _ _ x => (opv l x).isSome
  | .makeInterface _ x => (opv l x).isSome
  | .fieldAddr _ x _ => (opv l x).isSome
  | .field _ x _ => (opv l x).isSome
  | .index _ x y => (opv l x).isSome && (opv l y).isSome
  | .indexAddr _ x y => (opv l x).isSome && (opv l y).isSome
  | .extract x _ => (opv l x).isSome
  | .load _ x => (opv l x).isSome
  | .alloc _ => true
  | .box _ x => (opv l x).isSome
  | .store _ x y => (opv l x).isSome && (opv l y).isSome
  | .build _ ps => ps.toList.all fun p => (opv l p.2).isSome
  | .buildSlice _ _ ps => ps.toList.all fun p => (opv l p.2).isSome
  | .slice _ x lo hi mx => (opv l x).isSome && (lo.all fun z => (opv l z).isSome) && (hi.all fun z => (opv l z).isSome) && (mx.all fun z => (opv l z).isSome)
  | .typeAssert x _ _ _ => (opv l x).isSome
  | _ => false
theorem rho_eq {ρ : Operand → Value} {l : List (Nat × Value)} (h : Cons ρ l) {x : Operand} (hx : (opv l x).isSome = true) : ρ x = rho l x := by
  obtain ⟨v, hv⟩ := Option.isSome_iff_exists.1 hx
  rw [h.opv hv, rho, hv]; rfl
theorem map_rho {ρ : Operand → Value} {l : List (Nat × Value)} (h : Cons ρ l) (ps : Array (Nat × Operand)) (hp : (ps.toList.all fun p => (opv l p.2).isSome) = true) : ps.map (fun (i, x) => (i, ρ x)) = ps.map (fun (i, x) => (i, rho l x)) := by
  apply Array.map_congr_left
  intro p hm
  rw [List.all_eq_true] at hp
  show (p.1, ρ p.2) = (p.1, rho l p.2)
  rw [rho_eq h (hp p (Array.mem_toList_iff.2 hm))]
theorem opt_rho {ρ : Operand → Value} {l : List (Nat × Value)} (h : Cons ρ l) {o : Option Operand} (hp : (o.all fun z => (opv l z).isSome) = true) : o.map ρ = o.map (rho l) := by
  cases o with
  | none => rfl
  | some x => simp only [Option.map_some]; rw [rho_eq h (by simpa using hp)]
theorem exec_known {ρ : Operand → Value} {l : List (Nat × Value)} (h : Cons ρ l) {o : Oper} (hk : known l o.op = true) : execOp ρ o = execOp (rho l) o := by
  unfold execOp
  cases ho : o.op <;> rw [ho] at hk <;> simp only [known, Bool.and_eq_true] at hk <;> try (cases hk; done)
  case unOp => dsimp only; rw [rho_eq h hk]
  case binOp => dsimp only; rw [rho_eq h hk.1, rho_eq h hk.2]
  case convert => dsimp only; rw [rho_eq h hk]
  case makeInterface => dsimp only; rw [rho_eq h hk]
  case fieldAddr => dsimp only; rw [rho_eq h hk]
  case field => dsimp only; rw [rho_eq h hk]
  case index => dsimp only; rw [rho_eq h hk.1, rho_eq h hk.2]
  case indexAddr => dsimp only; rw [rho_eq h hk.1, rho_eq h hk.2]
  case extract => dsimp only; rw [rho_eq h hk]
  case load => dsimp only; rw [rho_eq h hk]
  case box => dsimp only; rw [rho_eq h hk]
  case store => dsimp only; rw [rho_eq h hk.1, rho_eq h hk.2]
  case build => dsimp only; rw [map_rho h _ hk]
  case buildSlice => dsimp only; rw [map_rho h _ hk]
  case slice => dsimp only; rw [rho_eq h hk.1.1.1, opt_rho h hk.1.1.2, opt_rho h hk.1.2, opt_rho h hk.2]
  case typeAssert => dsimp only; rw [rho_eq h hk]
section
variable {P : Program} {L : List Oper} {S : World → Prop} {K : List (Nat × Value) → World → Prop} {k : Bool} {i m d : Nat} {o : Oper} {r : List (Bool × Nat × Nat)} {l : List (Nat × Value)} {w w' : World} {v : Value}
/-- Its value follows by reckoning. -/
theorem qA_ev (v : Value) (hS : S w) (ho : nth L i = some o) (hd : o.dst = some d) (hg : gd L l o.guard = some true) (hk : known l o.op = true) (he : ∀ X, (execOp (rho l) o).run P X = .ok (.value v) X)
    (h : wpA P L S K r ((d, v) :: l) w) : wpA P L S K ((k, i, m) :: r) l w := pA_pure hS ho hd hg (fun ρ hρ X _ => by rw [exec_known hρ hk]; exact he X) h
/-- It turns the world. -/
theorem qA_evW (v : Value) (w' : World) (ho : nth L i = some o) (hd : o.dst = some d) (hg : gd L l o.guard = some true) (hk : known l o.op = true) (he : (execOp (rho l) o).run P w = .ok (.value v) w') (hS : S w')
    (h : wpA P L S K r ((d, v) :: l) w') : wpA P L S K ((false, i, m) :: r) l w := pA_val ho hd hg (fun ρ hρ => by rw [exec_known hρ hk]; exact he) hS h
/-- A binary operation. -/
theorem qA_b {x y : Operand} {op : BinOp} {tx ty : TypeId} {u u' : Value} (hr : ∀ X, Bn P op tx x y u u' X = .ok v X) (hS : S w) (ho : nth L i = some o) (hop : o.op = .binOp op tx x y ty) (hd : o.dst = some d) (hg : gd L l o.guard = some true) (hx : opv l x = some u) (hy : opv l y = some u')
    (h : wpA P L S K r ((d, v) :: l) w) : wpA P L S K ((k, i, m) :: r) l w := qA_bin hS ho hop hd hg hx hy hr h
/-- A number is turned to another kind. -/
theorem qA_cv {x : Operand} {s t : TypeId} {kd kd' : IntKind} {a c : Int} (hu : P.underlying t = some (.int kd')) (hs : (P.underlying s).isSome = true) (h1 : kd'.wrap a = c) (hS : S w) (ho : nth L i = some o) (hop : o.op = .convert s t x) (hd : o.dst = some d) (hg : gd L l o.guard = some true) (hx : opv l x = some (.int kd a))
    (h : wpA P L S K r ((d, .int kd' c) :: l) w) : wpA P L S K ((k, i, m) :: r) l w :=
  pA_pure hS ho hd hg (fun ρ hρ X _ => by
    obtain ⟨sd, hs⟩ := Option.isSome_iff_exists.1 hs
    unfold execOp; rw [hop]
    refine run_val _ X ?_
    rw [hρ.opv hx]
    subst h1
    simp [convert, run_underlying hs, run_underlying hu, Conv.intToInt]) h
/-- The length of a slice, of a text. -/
theorem qA_ln {x : Operand} {t e : TypeId} {A : Option Addr} {n c : Nat} (hu : P.underlying t = some (.slice e)) (hS : S w) (ho : nth L i = some o) (hop : o.op = .call { callee := .builtin .len, args := #[x], argTypes := #[t] }) (hd : o.dst = some d) (hg : gd L l o.guard = some true) (hx : opv l x = some (.slice A n c))
    (h : wpA P L S K r ((d, .int .i64 ((n : Nat) : Int)) :: l) w) : wpA P L S K ((k, i, m) :: r) l w :=
  pA_pure hS ho hd hg (fun ρ hρ X _ => by
    obtain ⟨d', op', t', ps', af', gu'⟩ := o
    cases hop
    have e := hρ.opv hx
    simp [go_sem, e, Builtin.len_, run_underlying hu]) h
theorem qA_lt {x : Operand} {t : TypeId} {s : ByteArray} (hu : P.underlying t = some .string) (hS : S w) (ho : nth L i = some o) (hop : o.op = .call { callee := .builtin .len, args := #[x], argTypes := #[t] }) (hd : o.dst = some d) (hg : gd L l o.guard = some true) (hx : opv l x = some (.string s))
    (h : wpA P L S K r ((d, .int .i64 ((s.size : Nat) : Int)) :: l) w) : wpA P L S K ((k, i, m) :: r) l w :=
  pA_pure hS ho hd hg (fun ρ hρ X _ => by
    obtain ⟨d', op', t', ps', af', gu'⟩ := o
    cases hop
    have e := hρ.opv hx
    simp [go_sem, e, Builtin.len_, run_underlying hu]) h
theorem qA_cp {x : Operand} {t e : TypeId} {A : Option Addr} {n c : Nat} (hu : P.underlying t = some (.slice e)) (hS : S w) (ho : nth L i = some o) (hop : o.op = .call { callee := .builtin .cap, args := #[x], argTypes := #[t] }) (hd : o.dst = some d) (hg : gd L l o.guard = some true) (hx : opv l x = some (.slice A n c))
    (h : wpA P L S K r ((d, .int .i64 ((c : Nat) : Int)) :: l) w) : wpA P L S K ((k, i, m) :: r) l w :=
  pA_pure hS ho hd hg (fun ρ hρ X _ => by
    obtain ⟨d', op', t', ps', af', gu'⟩ := o
    cases hop
    have e := hρ.opv hx
    simp [go_sem, e, Builtin.cap_, run_underlying hu]) h
/-- A place of a slice. -/
theorem qA_ix {x y : Operand} {t e : TypeId} {ad : Addr} {n c j s : Nat} {z : Int} {kd : IntKind} (hu : P.underlying t = some (.slice e)) (hs : (P.info? e).map (·.size) = some s) (hz : z = (j : Int)) (hj : j < n) (hS : S w) (ho : nth L i = some o) (hop : o.op = .indexAddr t x y) (hd : o.dst = some d) (hg : gd L l o.guard = some true)
    (hx : opv l x = some (.slice (some ad) n c)) (hy : opv l y = some (.int kd z)) (h : wpA P L S K r ((d, .pointer (some (ad.add (j * s)))) :: l) w) : wpA P L S K ((k, i, m) :: r) l w :=
  pA_pure hS ho hd hg (fun ρ hρ X _ => by
    subst hz
    unfold execOp; rw [hop]
    refine run_val _ X ?_
    rw [hρ.opv hx, hρ.opv hy]
    have h0 : (0 : Int) ≤ (j : Int) ∧ (j : Int) < (n : Int) := by omega
    obtain ⟨inf, hi, hz⟩ := Option.map_eq_some_iff.1 hs
    subst hz
    simp [Instr.indexAt, run_underlying hu, asIntOf, h0, hj, sizeOf, typeInfo, hi, Result.andThen]) h
/-- A place of an array. -/
theorem qA_ia {x y : Operand} {t e : TypeId} {ad : Addr} {n j s : Nat} {z : Int} {kd : IntKind} (hu : P.underlying t = some (.array n e)) (hs : (P.info? e).map (·.size) = some s) (hz : z = (j : Int)) (hj : j < n) (hS : S w) (ho : nth L i = some o) (hop : o.op = .indexAddr t x y) (hd : o.dst = some d) (hg : gd L l o.guard = some true)
    (hx : opv l x = some (.pointer (some ad))) (hy : opv l y = some (.int kd z)) (h : wpA P L S K r ((d, .pointer (some (ad.add (j * s)))) :: l) w) : wpA P L S K ((k, i, m) :: r) l w :=
  pA_pure hS ho hd hg (fun ρ hρ X _ => by
    subst hz
    unfold execOp; rw [hop]
    refine run_val _ X ?_
    rw [hρ.opv hx, hρ.opv hy]
    have h0 : (0 : Int) ≤ (j : Int) ∧ (j : Int) < (n : Int) := by omega
    obtain ⟨inf, hi, hz⟩ := Option.map_eq_some_iff.1 hs
    subst hz
    simp [Instr.indexAt, run_underlying hu, asIntOf, h0, hj, sizeOf, typeInfo, hi, Result.andThen, Instr.sureAddr]) h
/-- One cell is loaded. -/
theorem run_ld {ty : TypeId} {dd : TypeDesc} {a : Addr} {X : World} (hu : P.underlying ty = some dd) (hd : dd.isRow = false) (hc : X.cell? a = some v) : (Instr.loadAt ty (.pointer (some a))).run P X = .ok v X := by
  cases dd <;> first | (simp [TypeDesc.isRow] at hd; done) | simp [Instr.loadAt, Instr.sureAddr, loadVar, isAgg, run_underlying hu, hc, Result.andThen]
theorem qA_lc {x : Operand} {ty : TypeId} {dd : TypeDesc} {a : Addr} (hu : P.underlying ty = some dd) (hd' : dd.isRow = false) (hc : ∀ X, S X → X.cell? a = some v) (hS : S w) (ho : nth L i = some o) (hop : o.op = .load ty x) (hd : o.dst = some d) (hg : gd L l o.guard = some true) (hx : opv l x = some (.pointer (some a)))
    (h : wpA P L S K r ((d, v) :: l) w) : wpA P L S K ((k, i, m) :: r) l w := qA_load hS ho hop hd hg hx (fun X hX => run_ld hu hd' (hc X hX)) h
theorem qA_lcw {x : Operand} {ty : TypeId} {dd : TypeDesc} {a : Addr} (hu : P.underlying ty = some dd) (hd' : dd.isRow = false) (hc : w.cell? a = some v) (hS : S w) (ho : nth L i = some o) (hop : o.op = .load ty x) (hd : o.dst = some d) (hg : gd L l o.guard = some true) (hx : opv l x = some (.pointer (some a)))
    (h : wpA P L S K r ((d, v) :: l) w) : wpA P L S K ((false, i, m) :: r) l w := qA_loadw hS ho hop hd hg hx (run_ld hu hd' hc) h
/-- A part of a slice. -/
def cutA (A : Option Addr) (l h c s : Nat) : Value := .slice (if c = l then A else A.map (·.add (l * s))) (h - l) (c - l)
theorem qA_sl {x : Operand} {t e : TypeId} {lo hi : Option Operand} {A : Option Addr} {n c lo' hi' s : Nat} {kl kh : IntKind} (hu : P.underlying t = some (.slice e)) (hs : (P.info? e).map (·.size) = some s)
    (hl : (lo = none ∧ lo' = 0) ∨ (∃ q z, lo = some q ∧ opv l q = some (.int kl z) ∧ z = (lo' : Int))) (hh : (hi = none ∧ hi' = n ∧ n ≤ c) ∨ (∃ q z, hi = some q ∧ opv l q = some (.int kh z) ∧ z = (hi' : Int))) (h1 : lo' ≤ hi') (h2 : hi' ≤ c)
    (hS : S w) (ho : nth L i = some o) (hop : o.op = .slice t x lo hi none) (hd : o.dst = some d) (hg : gd L l o.guard = some true)
    (hx : opv l x = some (.slice A n c)) (h : wpA P L S K r ((d, cutA A lo' hi' c s) :: l) w) : wpA P L S K ((k, i, m) :: r) l w :=
  pA_pure hS ho hd hg (fun ρ hρ X _ => by
    unfold execOp; rw [hop]
    refine run_val _ X ?_
    rw [hρ.opv hx]
    obtain ⟨inf, hi0, hz⟩ := Option.map_eq_some_iff.1 hs
    subst hz
    have g1 : (0 : Int) ≤ (lo' : Int) := by omega
    have g2 : (lo' : Int) ≤ (hi' : Int) := by omega
    have g3 : (hi' : Int) ≤ (c : Int) := by omega
    have g4 : (0 : Int) ≤ (hi' : Int) := by omega
    have h1' : lo' ≤ hi' := h1
    rcases hl with ⟨rfl, rfl⟩ | ⟨q, z, rfl, hq, rfl⟩ <;> rcases hh with ⟨rfl, rfl, hc⟩ | ⟨q', z', rfl, hq', rfl⟩
    · simp [Instr.sliceAt, Instr.slice, run_underlying hu, Instr.sliceBounds, run_sliceBound, sizeOf, typeInfo, hi0, Result.andThen, cutA]
    · simp [Instr.sliceAt, Instr.slice, run_underlying hu, Instr.sliceBounds, run_sliceBound, sizeOf, typeInfo, hi0, Result.andThen, cutA, hρ.opv hq', g3, h2]
    · simp [Instr.sliceAt, Instr.slice, run_underlying hu, Instr.sliceBounds, run_sliceBound, sizeOf, typeInfo, hi0, Result.andThen, cutA, hρ.opv hq, h1]
    · simp [Instr.sliceAt, Instr.slice, run_underlying hu, Instr.sliceBounds, run_sliceBound, sizeOf, typeInfo, hi0, Result.andThen, cutA, hρ.opv hq, hρ.opv hq', h1, h2]) h
end
end Go.Proofs.YtmioaeaobefphaaDoor.Pl
