/- Steps for any program: numbers, slices. -/
import Derived.Test.YtbdmncpibnligaaGreatDoorBab
import Derived.Deep.MidRow
import Derived.Deep.WholeRow
import Derived.Laws.CopyOwn
import Derived.WalkKit
import Derived.Laws.EntriesVeiled
import Derived.Deep.AppendSrc
import Derived.Lib.AppendZeros
import Derived.Laws.IdiomStrings
import Derived.Laws.StructEq

namespace Go.Proofs.YtbdmncpibnligaaGreatDoor.Pl
open Go
set_option linter.unusedVariables false
set_option linter.unusedSimpArgs false

/-! Steps for any program: numbers, slices, memory. -/
theorem w64 {z : Int} (h1 : -9223372036854775808 ≤ z) (h2 : z ≤ 9223372036854775807) : IntKind.i64.wrap z = z := by
  simp only [IntKind.wrap, IntKind.signed, IntKind.bits, Bool.true_and]; simp; split <;> omega
theorem w8 {z : Int} (h1 : 0 ≤ z) (h2 : z < 256) : IntKind.u8.wrap z = z := by
  simp only [IntKind.wrap, IntKind.signed, IntKind.bits]; simp; omega
theorem w16 {z : Int} (h1 : 0 ≤ z) (h2 : z < 65536) : IntKind.u16.wrap z = z := by
  simp only [IntKind.wrap, IntKind.signed, IntKind.bits]; simp; omega
theorem w32 {z : Int} (h1 : 0 ≤ z) (h2 : z < 4294967296) : IntKind.u32.wrap z = z := by
  simp only [IntKind.wrap, IntKind.signed, IntKind.bits]; simp; omega
theorem wu64 {z : Int} (h1 : 0 ≤ z) (h2 : z < 18446744073709551616) : IntKind.u64.wrap z = z := by
  simp only [IntKind.wrap, IntKind.signed, IntKind.bits]; simp; omega
section
variable {P : Program} {T : TypeId} {x y : Operand} {k k' : IntKind} {a b c : Int} {v : Bool}
abbrev Bn (P : Program) (op : BinOp) (T : TypeId) (x y : Operand) (u u' : Value) (X : World) : Result Value := (do eqGuard op T x y u u'; binOp op T u u' : Sem Value).run P X
theorem r_add (h : k.wrap (a + b) = c) (X : World) : Bn P .add T x y (.int k a) (.int k b) X = .ok (.int k c) X := by
  subst h; simp [Bn, eqGuard, binOp, Op.intArith]
theorem r_sub (h : k.wrap (a - b) = c) (X : World) : Bn P .sub T x y (.int k a) (.int k b) X = .ok (.int k c) X := by
  subst h; simp [Bn, eqGuard, binOp, Op.intArith]
theorem r_mul (h : k.wrap (a * b) = c) (X : World) : Bn P .mul T x y (.int k a) (.int k b) X = .ok (.int k c) X := by
  subst h; simp [Bn, eqGuard, binOp, Op.intArith]
theorem r_quo (h0 : b ≠ 0) (h : k.wrap (a.tdiv b) = c) (X : World) : Bn P .quo T x y (.int k a) (.int k b) X = .ok (.int k c) X := by
  subst h; simp [Bn, eqGuard, binOp, Op.intDiv, h0]
theorem r_rem (h0 : b ≠ 0) (h : a.tmod b = c) (X : World) : Bn P .rem T x y (.int k a) (.int k b) X = .ok (.int k c) X := by
  subst h; simp [Bn, eqGuard, binOp, Op.intDiv, h0]
theorem r_eql (h : (a == b) = v) (X : World) : Bn P .eql T x y (.int k a) (.int k b) X = .ok (.bool v) X := by
  subst h; simp [Bn, eqGuard, binOp, Op.intCmp]
theorem r_neq (h : (a != b) = v) (X : World) : Bn P .neq T x y (.int k a) (.int k b) X = .ok (.bool v) X := by
  subst h; simp [Bn, eqGuard, binOp, Op.intCmp]
theorem r_lss (h : decide (a < b) = v) (X : World) : Bn P .lss T x y (.int k a) (.int k b) X = .ok (.bool v) X := by
  subst h; simp [Bn, eqGuard, binOp, Op.intCmp]
theorem r_leq (h : decide (a ≤ b) = v) (X : World) : Bn P .leq T x y (.int k a) (.int k b) X = .ok (.bool v) X := by
  subst h; simp [Bn, eqGuard, binOp, Op.intCmp]
theorem r_gtr (h : decide (b < a) = v) (X : World) : Bn P .gtr T x y (.int k a) (.int k b) X = .ok (.bool v) X := by
  subst h; simp [Bn, eqGuard, binOp, Op.intCmp]
theorem r_geq (h : decide (b ≤ a) = v) (X : World) : Bn P .geq T x y (.int k a) (.int k b) X = .ok (.bool v) X := by
  subst h; simp [Bn, eqGuard, binOp, Op.intCmp]
theorem r_shr {n m : Nat} (hm : (m : Int) = b) (hk : m ≤ k.bits) (X : World) : Bn P .shr T x y (.int k ((n : Nat) : Int)) (.int k' b) X = .ok (.int k ((n / 2 ^ m : Nat) : Int)) X := by
  subst hm
  have e : ((n : Int)).fdiv (2 ^ m) = ((n / 2 ^ m : Nat) : Int) := by
    rw [Int.fdiv_eq_ediv_of_nonneg _ (by exact_mod_cast Nat.zero_le _)]; push_cast; rfl
  have h0 : ¬ ((m : Int) < 0) := by omega
  simp [Bn, eqGuard, binOp, Op.shift, h0, Nat.min_eq_left hk, e]
theorem r_shl {n m c : Nat} (hm : (m : Int) = b) (hk : m ≤ k.bits) (h : k.wrap ((n * 2 ^ m : Nat) : Int) = ((c : Nat) : Int)) (X : World) : Bn P .shl T x y (.int k ((n : Nat) : Int)) (.int k' b) X = .ok (.int k ((c : Nat) : Int)) X := by
  subst hm
  have h0 : ¬ ((m : Int) < 0) := by omega
  rw [← h]
  push_cast
  simp [Bn, eqGuard, binOp, Op.shift, h0, Nat.min_eq_left hk]
end
section
variable {P : Program} {T : TypeId} {x y : Operand} {a b c : Nat}
theorem bn_and (op : BinOp) (h : op = .and ∨ op = .or ∨ op = .xor) (k : IntKind) (hs : k.signed = false) (ha : a < 2 ^ k.bits) (hb : b < 2 ^ k.bits) (f : Nat → Nat → Nat)
    (hf : (op = .and → f = (· &&& ·)) ∧ (op = .or → f = (· ||| ·)) ∧ (op = .xor → f = (· ^^^ ·))) (X : World) : Bn P op T x y (.int k (a : Int)) (.int k (b : Int)) X = .ok (.int k ((f a b : Nat) : Int)) X := by
  have ea : (BitVec.ofInt k.bits (a : Int)).toNat = a := by rw [BitVec.ofInt_natCast, BitVec.toNat_ofNat, Nat.mod_eq_of_lt ha]
  have eb : (BitVec.ofInt k.bits (b : Int)).toNat = b := by rw [BitVec.ofInt_natCast, BitVec.toNat_ofNat, Nat.mod_eq_of_lt hb]
  have hw : ∀ n : Nat, n < 2 ^ k.bits → k.wrap (n : Int) = (n : Int) := fun n hn => by
    have h2 : ((n : Int)) % (2 ^ k.bits : Int) = (n : Int) := Int.emod_eq_of_lt (by omega) (by exact_mod_cast hn)
    simp [IntKind.wrap, hs, h2]
  rcases h with rfl | rfl | rfl
  · rw [hf.1 rfl]
    simp only [Bn, eqGuard, binOp, Op.intBits]
    simp [Nat.mod_eq_of_lt ha, Nat.mod_eq_of_lt hb, hw _ (Nat.lt_of_le_of_lt Nat.and_le_left ha)]
  · rw [hf.2.1 rfl]
    simp only [Bn, eqGuard, binOp, Op.intBits]
    simp [Nat.mod_eq_of_lt ha, Nat.mod_eq_of_lt hb, hw _ (Nat.or_lt_two_pow ha hb)]
  · rw [hf.2.2 rfl]
    simp only [Bn, eqGuard, binOp, Op.intBits]
    simp [Nat.mod_eq_of_lt ha, Nat.mod_eq_of_lt hb, hw _ (Nat.xor_lt_two_pow ha hb)]
theorem r_and {k : IntKind} (hs : k.signed = false) (ha : a < 2 ^ k.bits) (hb : b < 2 ^ k.bits) (h : a &&& b = c) (X : World) : Bn P .and T x y (.int k (a : Int)) (.int k (b : Int)) X = .ok (.int k ((c : Nat) : Int)) X := by
  subst h; exact bn_and .and (.inl rfl) k hs ha hb _ ⟨fun _ => rfl, fun h => by (cases h), fun h => by (cases h)⟩ X
theorem r_or {k : IntKind} (hs : k.signed = false) (ha : a < 2 ^ k.bits) (hb : b < 2 ^ k.bits) (h : a ||| b = c) (X : World) : Bn P .or T x y (.int k (a : Int)) (.int k (b : Int)) X = .ok (.int k ((c : Nat) : Int)) X := by
  subst h; exact bn_and .or (.inr (.inl rfl)) k hs ha hb _ ⟨fun h => by (cases h), fun _ => rfl, fun h => by (cases h)⟩ X
end
/-! Operations whose value follows from what is known alone. -/
def rho (l : List (Nat × Value)) (x : Operand) : Value := (opv l x).getD undef
/-- All that the operation asks is known. -/
def known (l : List (Nat × Value)) : Op → Bool
  | .unOp _ _ x => (opv l x).isSome
  | .binOp _ _ x y _ => (opv l x).isSome && (opv l y).isSome
  | .convert _ _ x => (opv l x).isSome
  | .makeInterface _ x => (opv l x).isSome
  | .fieldAddr _ x _ => (opv l x).isSome
  | .field _ x _ => (opv l x).isSome
  | .index _ x y => (opv l x).isSome && (opv l y).isSome
  | .indexAddr _ x y => (opv l x).isSome && (opv l y).isSome
  | .extract x _ => (opv l x).isSome
  | .load _ x => (opv l x).isSome
  | .alloc _ => true
  | .box _ x => (opv l x).isSome
  | .store _ x y => (opv l x).isSome && (opv l y).isSome
  | .build _ ps => ps.toList.all fun p => (opv l p.2).isSome
  | .buildSlice _ _ ps => ps.toList.all fun p => (opv l p.2).isSome
  | .slice _ x lo hi mx => (opv l x).isSome && (lo.all fun z => (opv l z).isSome) && (hi.all fun z => (opv l z).isSome) && (mx.all fun z => (opv l z).isSome)
  | .typeAssert x _ _ _ => (opv l x).isSome
  | _ => false
theorem rho_eq {ρ : Operand → Value} {l : List (Nat × Value)} (h : Cons ρ l) {x : Operand} (hx : (opv l x).isSome = true) : ρ x = rho l x := by
  obtain ⟨v, hv⟩ := Option.isSome_iff_exists.1 hx
  rw [h.opv hv, rho, hv]; rfl
theorem map_rho {ρ : Operand → Value} {l : List (Nat × Value)} (h : Cons ρ l) (ps : Array (Nat × Operand)) (hp : (ps.toList.all fun p => (opv l p.2).isSome) = true) : ps.map (fun (i, x) => (i, ρ x)) = ps.map (fun (i, x) => (i, rho l x)) := by
  apply Array.map_congr_left
  intro p hm
  rw [List.all_eq_true] at hp
  show (p.1, ρ p.2) = (p.1, rho l p.2)
  rw [rho_eq h (hp p (Array.mem_toList_iff.2 hm))]
theorem opt_rho {ρ : Operand → Value} {l : List (Nat × Value)} (h : Cons ρ l) {o : Option Operand} (hp : (o.all fun z => (opv l z).isSome) = true) : o.map ρ = o.map (rho l) := by
  cases o with
  | none => rfl
  | some x => simp only [Option.map_some]; rw [rho_eq h (by simpa using hp)]
theorem exec_known {ρ : Operand → Value} {l : List (Nat × Value)} (h : Cons ρ l) {o : Oper} (hk : known l o.op = true) : execOp ρ o = execOp (rho l) o := by
  unfold execOp
  cases ho : o.op <;> rw [ho] at hk <;> simp only [known, Bool.and_eq_true] at hk <;> try (cases hk; done)
  case unOp => dsimp only; rw [rho_eq h hk]
  case binOp => dsimp only; rw [rho_eq h hk.1, rho_eq h hk.2]
  case convert => dsimp only; rw [rho_eq h hk]
  case makeInterface => dsimp only; rw [rho_eq h hk]
  case fieldAddr => dsimp only; rw [rho_eq h hk]
  case field => dsimp only; rw [rho_eq h hk]
  case index => dsimp only; rw [rho_eq h hk.1, rho_eq h hk.2]
  case indexAddr => dsimp only; rw [rho_eq h hk.1, rho_eq h hk.2]
  case extract => dsimp only; rw [rho_eq h hk]
  case load => dsimp only; rw [rho_eq h hk]
  case box => dsimp only; rw [rho_eq h hk]
  case store => dsimp only; rw [rho_eq h hk.1, rho_eq h hk.2]
  case build => dsimp only; rw [map_rho h _ hk]
  case buildSlice => dsimp only; rw [map_rho h _ hk]
  case slice => dsimp only; rw [rho_eq h hk.1.1.1, opt_rho h hk.1.1.2, opt_rho h hk.1.2, opt_rho h hk.2]
  case typeAssert => dsimp only; rw [rho_eq h hk]
section
variable {P : Program} {L : List Oper} {S : World → Prop} {K : List (Nat × Value) → World → Prop} {k : Bool} {i m d : Nat} {o : Oper} {r : List (Bool × Nat × Nat)} {l : List (Nat × Value)} {w w' : World} {v : Value}
/-- It turns the world. -/
theorem qA_evW (v : Value) (w' : World) (ho : nth L i = some o) (hd : o.dst = some d) (hg : gd L l o.guard = some true) (hk : known l o.op = true) (he : (execOp (rho l) o).run P w = .ok (.value v) w') (hS : S w')
    (h : wpA P L S K r ((d, v) :: l) w') : wpA P L S K ((false, i, m) :: r) l w := pA_val ho hd hg (fun ρ hρ => by rw [exec_known hρ hk]; exact he) hS h
/-- A binary operation. -/
theorem qA_b {x y : Operand} {op : BinOp} {tx ty : TypeId} {u u' : Value} (hr : ∀ X, Bn P op tx x y u u' X = .ok v X) (hS : S w) (ho : nth L i = some o) (hop : o.op = .binOp op tx x y ty) (hd : o.dst = some d) (hg : gd L l o.guard = some true) (hx : opv l x = some u) (hy : opv l y = some u')
    (h : wpA P L S K r ((d, v) :: l) w) : wpA P L S K ((k, i, m) :: r) l w := qA_bin hS ho hop hd hg hx hy hr h
/-- A number is turned to another kind. -/
theorem qA_cv {x : Operand} {s t : TypeId} {kd kd' : IntKind} {a c : Int} (hu : P.underlying t = some (.int kd')) (hs : (P.underlying s).isSome = true) (h1 : kd'.wrap a = c) (hS : S w) (ho : nth L i = some o) (hop : o.op = .convert s t x) (hd : o.dst = some d) (hg : gd L l o.guard = some true) (hx : opv l x = some (.int kd a))
    (h : wpA P L S K r ((d, .int kd' c) :: l) w) : wpA P L S K ((k, i, m) :: r) l w :=
  pA_pure hS ho hd hg (fun ρ hρ X _ => by
    obtain ⟨sd, hs⟩ := Option.isSome_iff_exists.1 hs
    unfold execOp; rw [hop]
    refine run_val _ X ?_
    rw [hρ.opv hx]
    subst h1
    simp [convert, run_underlying hs, run_underlying hu, Conv.intToInt]) h
/-- The length of a slice, of a text. -/
theorem qA_ln {x : Operand} {t e : TypeId} {A : Option Addr} {n c : Nat} (hu : P.underlying t = some (.slice e)) (hS : S w) (ho : nth L i = some o) (hop : o.op = .call { callee := .builtin .len, args := #[x], argTypes := #[t] }) (hd : o.dst = some d) (hg : gd L l o.guard = some true) (hx : opv l x = some (.slice A n c))
    (h : wpA P L S K r ((d, .int .i64 ((n : Nat) : Int)) :: l) w) : wpA P L S K ((k, i, m) :: r) l w :=
  pA_pure hS ho hd hg (fun ρ hρ X _ => by
    obtain ⟨d', op', t', ps', af', gu'⟩ := o
    cases hop
    have e := hρ.opv hx
    simp [go_sem, e, Builtin.len_, run_underlying hu]) h
/-- A place of a slice. -/
theorem qA_ix {x y : Operand} {t e : TypeId} {ad : Addr} {n c j s : Nat} {z : Int} {kd : IntKind} (hu : P.underlying t = some (.slice e)) (hs : (P.info? e).map (·.size) = some s) (hz : z = (j : Int)) (hj : j < n) (hS : S w) (ho : nth L i = some o) (hop : o.op = .indexAddr t x y) (hd : o.dst = some d) (hg : gd L l o.guard = some true)
    (hx : opv l x = some (.slice (some ad) n c)) (hy : opv l y = some (.int kd z)) (h : wpA P L S K r ((d, .pointer (some (ad.add (j * s)))) :: l) w) : wpA P L S K ((k, i, m) :: r) l w :=
  pA_pure hS ho hd hg (fun ρ hρ X _ => by
    subst hz
    unfold execOp; rw [hop]
    refine run_val _ X ?_
    rw [hρ.opv hx, hρ.opv hy]
    have h0 : (0 : Int) ≤ (j : Int) ∧ (j : Int) < (n : Int) := by omega
    obtain ⟨inf, hi, hz⟩ := Option.map_eq_some_iff.1 hs
    subst hz
    simp [Instr.indexAt, run_underlying hu, asIntOf, h0, hj, sizeOf, typeInfo, hi, Result.andThen]) h
/-- A place of an array. -/
theorem qA_ia {x y : Operand} {t e : TypeId} {ad : Addr} {n j s : Nat} {z : Int} {kd : IntKind} (hu : P.underlying t = some (.array n e)) (hs : (P.info? e).map (·.size) = some s) (hz : z = (j : Int)) (hj : j < n) (hS : S w) (ho : nth L i = some o) (hop : o.op = .indexAddr t x y) (hd : o.dst = some d) (hg : gd L l o.guard = some true)
    (hx : opv l x = some (.pointer (some ad))) (hy : opv l y = some (.int kd z)) (h : wpA P L S K r ((d, .pointer (some (ad.add (j * s)))) :: l) w) : wpA P L S K ((k, i, m) :: r) l w :=
  pA_pure hS ho hd hg (fun ρ hρ X _ => by
    subst hz
    unfold execOp; rw [hop]
    refine run_val _ X ?_
    rw [hρ.opv hx, hρ.opv hy]
    have h0 : (0 : Int) ≤ (j : Int) ∧ (j : Int) < (n : Int) := by omega
    obtain ⟨inf, hi, hz⟩ := Option.map_eq_some_iff.1 hs
    subst hz
    simp [Instr.indexAt, run_underlying hu, asIntOf, h0, hj, sizeOf, typeInfo, hi, Result.andThen, Instr.sureAddr]) h
/-- One cell is loaded. -/
theorem run_ld {ty : TypeId} {dd : TypeDesc} {a : Addr} {X : World} (hu : P.underlying ty = some dd) (hd : dd.isRow = false) (hc : X.cell? a = some v) : (Instr.loadAt ty (.pointer (some a))).run P X = .ok v X := by
  cases dd <;> first | (simp [TypeDesc.isRow] at hd; done) | simp [Instr.loadAt, Instr.sureAddr, loadVar, isAgg, run_underlying hu, hc, Result.andThen]
theorem qA_lc {x : Operand} {ty : TypeId} {dd : TypeDesc} {a : Addr} (hu : P.underlying ty = some dd) (hd' : dd.isRow = false) (hc : ∀ X, S X → X.cell? a = some v) (hS : S w) (ho : nth L i = some o) (hop : o.op = .load ty x) (hd : o.dst = some d) (hg : gd L l o.guard = some true) (hx : opv l x = some (.pointer (some a)))
    (h : wpA P L S K r ((d, v) :: l) w) : wpA P L S K ((k, i, m) :: r) l w := qA_load hS ho hop hd hg hx (fun X hX => run_ld hu hd' (hc X hX)) h
theorem qA_lcw {x : Operand} {ty : TypeId} {dd : TypeDesc} {a : Addr} (hu : P.underlying ty = some dd) (hd' : dd.isRow = false) (hc : w.cell? a = some v) (hS : S w) (ho : nth L i = some o) (hop : o.op = .load ty x) (hd : o.dst = some d) (hg : gd L l o.guard = some true) (hx : opv l x = some (.pointer (some a)))
    (h : wpA P L S K r ((d, v) :: l) w) : wpA P L S K ((false, i, m) :: r) l w := qA_loadw hS ho hop hd hg hx (run_ld hu hd' hc) h
/-- A part of a slice. -/
def cutA (A : Option Addr) (l h c s : Nat) : Value := .slice (if c = l then A else A.map (·.add (l * s))) (h - l) (c - l)
theorem qA_sl {x : Operand} {t e : TypeId} {lo hi : Option Operand} {A : Option Addr} {n c lo' hi' s : Nat} {kl kh : IntKind} (hu : P.underlying t = some (.slice e)) (hs : (P.info? e).map (·.size) = some s)
    (hl : (lo = none ∧ lo' = 0) ∨ (∃ q z, lo = some q ∧ opv l q = some (.int kl z) ∧ z = (lo' : Int))) (hh : (hi = none ∧ hi' = n ∧ n ≤ c) ∨ (∃ q z, hi = some q ∧ opv l q = some (.int kh z) ∧ z = (hi' : Int))) (h1 : lo' ≤ hi') (h2 : hi' ≤ c)
    (hS : S w) (ho : nth L i = some o) (hop : o.op = .slice t x lo hi none) (hd : o.dst = some d) (hg : gd L l o.guard = some true)
    (hx : opv l x = some (.slice A n c)) (h : wpA P L S K r ((d, cutA A lo' hi' c s) :: l) w) : wpA P L S K ((k, i, m) :: r) l w :=
  pA_pure hS ho hd hg (fun ρ hρ X _ => by
    unfold execOp; rw [hop]
    refine run_val _ X ?_
    rw [hρ.opv hx]
    obtain ⟨inf, hi0, hz⟩ := Option.map_eq_some_iff.1 hs
    subst hz
    have g1 : (0 : Int) ≤ (lo' : Int) := by omega
    have g2 : (lo' : Int) ≤ (hi' : Int) := by omega
    have g3 : (hi' : Int) ≤ (c : Int) := by omega
    have g4 : (0 : Int) ≤ (hi' : Int) := by omega
    have h1' : lo' ≤ hi' := h1
    rcases hl with ⟨rfl, rfl⟩ | ⟨q, z, rfl, hq, rfl⟩ <;> rcases hh with ⟨rfl, rfl, hc⟩ | ⟨q', z', rfl, hq', rfl⟩
    · simp [Instr.sliceAt, Instr.slice, run_underlying hu, Instr.sliceBounds, run_sliceBound, sizeOf, typeInfo, hi0, Result.andThen, cutA]
    · simp [Instr.sliceAt, Instr.slice, run_underlying hu, Instr.sliceBounds, run_sliceBound, sizeOf, typeInfo, hi0, Result.andThen, cutA, hρ.opv hq', g3, h2]
    · simp [Instr.sliceAt, Instr.slice, run_underlying hu, Instr.sliceBounds, run_sliceBound, sizeOf, typeInfo, hi0, Result.andThen, cutA, hρ.opv hq, h1]
    · simp [Instr.sliceAt, Instr.slice, run_underlying hu, Instr.sliceBounds, run_sliceBound, sizeOf, typeInfo, hi0, Result.andThen, cutA, hρ.opv hq, hρ.opv hq', h1, h2]) h
end
end Go.Proofs.YtbdmncpibnligaaGreatDoor.Pl
/- Memory: variables, slices that are read, rows that grow, what is kept. -/
namespace Go.Proofs.YtbdmncpibnligaaGreatDoor.Pl
open Go Go.RowKit
set_option linter.unusedVariables false
set_option linter.unusedSimpArgs false

/-! Memory: variables, slices that are read, rows that grow, what is kept. -/
/-- What lay before stays. -/
def Ex (a b : World) : Prop := Below a.heap.size a b
theorem Ex.refl (w : World) : Ex w w := Below.refl _ _
theorem Ex.trans {a b c : World} (h : Ex a b) (k : Ex b c) : Ex a c := Below.trans h (Below.mono k (Below.size h))
theorem Ex.size {a b : World} (h : Ex a b) : a.heap.size ≤ b.heap.size := Below.size h
theorem Ex.alloc (w : World) (x : Obj) : Ex w (w.alloc x) := Below.alloc (Below.refl _ w) (Nat.le_refl _) x
theorem Ex.drew (w : World) : Ex w w.drew := Below.drew (Below.refl _ w)
/-- All blocks but these stay. -/
structure Xs (Bs : List Nat) (w w' : World) : Prop where
  os : w'.os = w.os
  tape : w'.tape = w.tape
  output : w'.output = w.output
  size : w.heap.size ≤ w'.heap.size
  block : ∀ k, k < w.heap.size → k ∉ Bs → w'.heap[k]? = w.heap[k]?
theorem Xs.ex {Bs : List Nat} {w w' : World} (h : Ex w w') : Xs Bs w w' := ⟨h.os, h.tape, h.output, h.size, fun k hk _ => h.block k hk⟩
theorem Xs.trans {Bs : List Nat} {a b c : World} (h : Xs Bs a b) (k : Xs Bs b c) : Xs Bs a c :=
  ⟨k.os.trans h.os, k.tape.trans h.tape, k.output.trans h.output, Nat.le_trans h.size k.size, fun i hi hn => (k.block i (Nat.lt_of_lt_of_le hi h.size) hn).trans (h.block i hi hn)⟩
/-- Blocks made since need not be named. -/
theorem Xs.drop {Bs Cs : List Nat} {w w' : World} (h : Xs Bs w w') (hs : ∀ k ∈ Bs, k ∈ Cs ∨ w.heap.size ≤ k) : Xs Cs w w' := ⟨h.os, h.tape, h.output, h.size, fun k hk hn => h.block k hk fun hb => by
  rcases hs k hb with h1 | h1
  · exact hn h1
  · omega⟩
/-- What lay before w0 stays though a younger block is written. -/
theorem Ex.xs {w0 w w' : World} {N : Nat} (h : Ex w0 w) (k : Xs [N] w w') (hN : w0.heap.size ≤ N) : Ex w0 w' :=
  ⟨k.os.trans h.os, k.tape.trans h.tape, k.output.trans h.output, Nat.le_trans h.size k.size, fun i hi => (k.block i (Nat.lt_of_lt_of_le hi h.size) (by simp; omega)).trans (h.block i hi)⟩
theorem Ex.grown {w0 w w' : World} {row : Option Nat} (h : Ex w0 w) (hg : w.grownBy w' row) (hr : ∀ k, row = some k → w0.heap.size ≤ k) : Ex w0 w' :=
  Below.grown h hg h.size hr

/-- A variable of its own of type T, with these cells. -/
def Cb (w : World) (N : Nat) (T : TypeId) (cs : List Value) : Prop := w.heap[N]? = some (.cells cs.toArray T (0, 0))
theorem Cb.lt {w : World} {N : Nat} {T : TypeId} {cs : List Value} (h : Cb w N T cs) : N < w.heap.size := (Array.getElem?_eq_some_iff.1 h).1
theorem Cb.ex {w w' : World} {N : Nat} {T : TypeId} {cs : List Value} (h : Cb w N T cs) (k : Ex w w') : Cb w' N T cs := (k.block N h.lt).trans h
theorem Cb.xs {w w' : World} {N : Nat} {T : TypeId} {cs : List Value} {Bs : List Nat} (h : Cb w N T cs) (k : Xs Bs w w') (hn : N ∉ Bs) : Cb w' N T cs := (k.block N h.lt hn).trans h
theorem Cb.new (w : World) (T : TypeId) (cs : List Value) : Cb (w.alloc (.cells cs.toArray T)) w.heap.size T cs := _root_.Go.heap_alloc_new w _
theorem Cb.at {w : World} {N : Nat} {T : TypeId} {cs : List Value} {v : Value} (h : Cb w N T cs) {j : Nat} (hj : cs[j]? = some v) : w.cell? ⟨N, j, none⟩ = some v := by
  rw [cell_of_row w N j cs.toArray T (0, 0) h]; simpa using hj
theorem Cb.frozen {w : World} {N : Nat} {T : TypeId} {cs : List Value} (h : Cb w N T cs) (j : Nat) : w.frozen? ⟨N, j, none⟩ = false := by unfold Cb at h; simp [World.frozen?, h]
theorem Cb.put {w : World} {N : Nat} {T : TypeId} {cs : List Value} (h : Cb w N T cs) (new : List Value) : Cb (w.setRow N new.toArray) N T new := setRow_heap w N _ _ T _ h
theorem Xs.put (w : World) (N : Nat) (new : Array Value) : Xs [N] w (w.setRow N new) := ⟨by simp, by simp, by simp, by simp, fun k _ hn => setRow_other w N k new (by simpa using hn)⟩
section
variable {P : Program}
theorem Cb.load {w : World} {N : Nat} {T : TypeId} {cs : List Value} (h : Cb w N T cs) {o : Nat} {part : List Value} (hp : (cs.drop o).take part.length = part) {ty : TypeId} {d : TypeDesc} (hu : P.underlying ty = some d) (hd : d.isRow = true) (hi : (P.info? ty).map (·.size) = some part.length) :
    (Instr.loadAt ty (.pointer (some ⟨N, o, none⟩))).run P w = .ok (.agg part.toArray) w :=
  run_loadAt_mid w N o ty part d (by
    have := World.rangeAt_of_block h o part.length
    have e : (cs.toArray.extract o (o + part.length)).toList = part := by
      rw [Array.toList_extract, List.extract_eq_take_drop, Nat.add_sub_cancel_left]; exact hp
    rwa [e] at this) hu hd hi
theorem Cb.store {w : World} {N : Nat} {T : TypeId} {cs : List Value} (h : Cb w N T cs) {ty : TypeId} {new : List Value} (hi : (P.info? ty).map (·.size) = some new.length) (hl : cs.length = new.length) (h1 : ∀ v ∈ new, v.oneCell' = true) :
    (Instr.storeAt ty (.pointer (some ⟨N, 0, none⟩)) (.agg new.toArray)).run P w = .ok () (w.setRow N new.toArray) := by
  simp only [Instr.storeAt, Instr.sureAddr, Sem.run_bind, Sem.run_pure, Result.andThen_ok]
  exact run_storeVar_row w N T ty cs.toArray new.toArray h (by simpa using hi) (by simpa using hl) (all_oneCell_toArray h1)
/-- One cell of it is written. -/
theorem run_st {w : World} {ty : TypeId} {a : Addr} {v old : Value} (hi : (P.info? ty).map (·.size) = some 1) (h1 : v.oneCell' = true) (hv : v.cells = #[v]) (hc : w.cell? a = some old) (hf : w.frozen? a = false) :
    (Instr.storeAt ty (.pointer (some a)) v).run P w = .ok () (w.setCell a v) := by
  obtain ⟨inf, hi0, hz⟩ := Option.map_eq_some_iff.1 hi
  have e : a.add 0 = a := by simp [Addr.add]
  simp [Instr.storeAt, Instr.sureAddr, storeVar, sizeOf, typeInfo, hi0, hz, hv, storeCells, Result.andThen, run_store P w _ v _ h1, e, hc, hf]
end
theorem Cb.set {w : World} {N : Nat} {T : TypeId} {cs : List Value} (h : Cb w N T cs) (j : Nat) (v : Value) : Cb (w.setCell ⟨N, j, none⟩ v) N T (cs.set j v) := by
  have := heap_setCell_same w N j _ _ v h
  unfold Cb
  rw [this, List.setIfInBounds_toArray]
theorem Xs.set (w : World) (N j : Nat) (v : Value) : Xs [N] w (w.setCell ⟨N, j, none⟩ v) := ⟨by simp [World.setCell], by simp [World.setCell], by simp [World.setCell], by simp [World.setCell], fun k _ hn => Below.heap_setCell w ⟨N, j, none⟩ v k (by simpa using hn)⟩

/-- A slice of n elements whose cells are xs; it lies nowhere below block lo. -/
def Sl (w : World) (lo : Nat) (v : Value) (n : Nat) (xs : List Value) : Prop := ∃ A c, v = .slice A n c ∧ n ≤ c ∧ c ≤ 9223372036854775807 ∧
  (0 < xs.length → ∃ ad, A = some ad ∧ lo ≤ ad.block ∧ ad.block < w.heap.size ∧ ∀ j u, xs[j]? = some u → w.cell? (ad.add j) = some u)
theorem Sl.sh {w : World} {lo n : Nat} {v : Value} {xs : List Value} (h : Sl w lo v n xs) : ∃ A c, v = .slice A n c ∧ n ≤ c ∧ c ≤ 9223372036854775807 := by
  obtain ⟨A, c, h1, h2, h3, _⟩ := h; exact ⟨A, c, h1, h2, h3⟩
theorem Sl.xs {w w' : World} {lo n : Nat} {v : Value} {xs : List Value} {Bs : List Nat} (h : Sl w lo v n xs) (k : Xs Bs w w') (hB : ∀ b ∈ Bs, b < lo ∨ w.heap.size ≤ b) : Sl w' lo v n xs := by
  obtain ⟨A, c, h1, h2, h3, h4⟩ := h
  refine ⟨A, c, h1, h2, h3, fun h0 => ?_⟩
  obtain ⟨ad, e, hl, hb, hc⟩ := h4 h0
  refine ⟨ad, e, hl, Nat.lt_of_lt_of_le hb k.size, fun j u hj => ?_⟩
  rw [← hc j u hj]
  refine World.cell?_of_block (k.block _ (by rw [addr_blk]; exact hb) ?_)
  intro hm
  rw [addr_blk] at hm
  rcases hB _ hm with h5 | h5 <;> omega
where addr_blk {a : Addr} {j : Nat} : (a.add j).block = a.block := by unfold Addr.add; split <;> rfl
theorem Sl.ex {w w' : World} {lo n : Nat} {v : Value} {xs : List Value} (h : Sl w lo v n xs) (k : Ex w w') : Sl w' lo v n xs := Sl.xs (Bs := []) h (Xs.ex k) (by simp)
theorem Sl.mono {w : World} {lo lo' n : Nat} {v : Value} {xs : List Value} (h : Sl w lo v n xs) (hl : lo' ≤ lo) : Sl w lo' v n xs := by
  obtain ⟨A, c, h1, h2, h3, h4⟩ := h
  exact ⟨A, c, h1, h2, h3, fun h0 => by obtain ⟨ad, e, hl', hb, hc⟩ := h4 h0; exact ⟨ad, e, Nat.le_trans hl hl', hb, hc⟩⟩
theorem Sl.nil (w : World) (lo : Nat) : Sl w lo (.slice none 0 0) 0 [] := ⟨none, 0, rfl, Nat.le_refl _, by omega, fun h => absurd h (by simp)⟩
/-- A place of it. -/
theorem Sl.at {w : World} {lo n c : Nat} {A : Option Addr} {xs : List Value} (h : Sl w lo (.slice A n c) n xs) {j : Nat} {u : Value} (hj : xs[j]? = some u) : ∃ ad, A = some ad ∧ w.cell? (ad.add j) = some u := by
  obtain ⟨A', c', h1, h2, h3, h4⟩ := h
  cases h1
  obtain ⟨ad, e, _, _, hc⟩ := h4 (by have := (List.getElem?_eq_some_iff.1 hj).1; omega)
  exact ⟨ad, e, hc j u hj⟩
/-- A part of it. -/
theorem Sl.cut {w : World} {lo n c s : Nat} {A : Option Addr} {xs : List Value} (h : Sl w lo (.slice A n c) n xs) (hx : xs.length = n * s) {l k : Nat} (h1 : l ≤ k) (h2 : k ≤ n) :
    Sl w lo (cutA A l k c s) (k - l) ((xs.drop (l * s)).take ((k - l) * s)) := by
  obtain ⟨A', c', he, hn, hc, h4⟩ := h
  cases he
  refine ⟨_, _, rfl, by omega, by omega, fun h0 => ?_⟩
  have hlen : ((xs.drop (l * s)).take ((k - l) * s)).length ≤ (k - l) * s := by rw [List.length_take]; exact Nat.min_le_left _ _
  have hkl : l < k := by
    rcases Nat.lt_or_ge l k with h | h
    · exact h
    · have hz : (k - l) * s = 0 := by rw [show k - l = 0 by omega, Nat.zero_mul]
      omega
  have hpos : 0 < xs.length := by rw [List.length_take, List.length_drop] at h0; omega
  obtain ⟨ad, rfl, hl, hb, hcell⟩ := h4 hpos
  have hne : c ≠ l := by omega
  rw [if_neg hne]
  refine ⟨ad.add (l * s), rfl, by rw [Sl.xs.addr_blk]; exact hl, by rw [Sl.xs.addr_blk]; exact hb, fun j u hj => ?_⟩
  have e : (ad.add (l * s)).add j = ad.add (l * s + j) := by
    unfold Addr.add
    by_cases hi : l * s = 0 <;> by_cases hj : j = 0 <;> simp [hi, hj, Nat.add_assoc]
  rw [e]
  refine hcell _ u ?_
  rw [List.getElem?_take] at hj
  split at hj
  · rwa [List.getElem?_drop] at hj
  · cases hj
section
variable {P : Program} {ok : Value → Prop} {w w' : World} {base : Nat} {e : TypeId} {size : Nat} {v : Value} {n : Nat} {xs : List Value}
theorem Gr.sl (h : Gr ok w base e size v n xs) (hm : n ≤ 9223372036854775807) : Sl w base v n xs := by
  rcases h.2 with ⟨rfl, rfl⟩ | ⟨g, cap, cur, rfl, hb, hgg, hnc, hcm, hcs, htake, hok⟩
  · refine ⟨none, 0, rfl, Nat.le_refl _, by omega, fun h0 => ?_⟩
    have := h.1; omega
  · refine ⟨_, cap, rfl, hnc, by unfold maxLen at hcm; omega, fun h0 => ⟨_, rfl, hb, (Array.getElem?_eq_some_iff.1 hgg).1, fun j u hj => h.own.cells (g := g) rfl j u hj⟩⟩
theorem Gr.keep {Bs : List Nat} (h : Gr ok w base e size v n xs) (k : Xs Bs w w') (hn : ∀ g, v.ownBlock = some g → g ∉ Bs) : Gr ok w' base e size v n xs := by
  refine ⟨h.1, ?_⟩
  rcases h.2 with hn | ⟨g, cap, cur, rfl, hb, hgg, rest⟩
  · exact .inl hn
  · refine .inr ⟨g, cap, cur, rfl, hb, ?_, rest⟩
    rw [k.block g (Array.getElem?_eq_some_iff.1 hgg).1 (hn g rfl)]
    exact hgg
theorem Gr.ex (h : Gr ok w base e size v n xs) (k : Ex w w') : Gr ok w' base e size v n xs := Gr.keep (Bs := []) h (Xs.ex k) (by simp)
/-- Where it lies. -/
theorem Gr.lies (h : Gr ok w base e size v n xs) : ∀ g, v.ownBlock = some g → base ≤ g ∧ g < w.heap.size := by
  intro g hg
  rcases h.2 with ⟨rfl, _⟩ | ⟨g', cap, cur, rfl, hb, hgg, _⟩
  · simp [Value.ownBlock] at hg
  · simp [Value.ownBlock] at hg
    subst hg
    exact ⟨hb, (Array.getElem?_eq_some_iff.1 hgg).1⟩
end
section
variable {P : Program} {L : List Oper} {S : World → Prop} {K : List (Nat × Value) → World → Prop} {k : Bool} {i m d : Nat} {o : Oper} {x y : Operand} {r : List (Bool × Nat × Nat)} {l : List (Nat × Value)} {w w' : World} {v : Value}
/-- A variable is made: its cells are the type's zero value. -/
theorem qA_al {T : TypeId} {z : Value} (hz : (P.info? T).map (fun i => i.zero) = some (some z)) (ho : nth L i = some o) (hp : o.op = .alloc T) (hd : o.dst = some d) (hg : gd L l o.guard = some true) (hS : ∀ Y, Ex w Y → S Y)
    (h : ∀ N w', Ex w w' → N = w.heap.size → Cb w' N T z.cells.toList → wpA P L S K r ((d, .pointer (some ⟨N, 0, none⟩)) :: l) w') : wpA P L S K ((false, i, m) :: r) l w := by
  have e1 := Ex.alloc w (.cells z.cells T)
  have h0 : (zeroValue T).run P w = .ok z w := by
    cases hq : P.info? T with
    | none => simp [hq] at hz
    | some i => simp [hq] at hz; simp [zeroValue, typeInfo, hq, hz]
  refine qA_alloc ho hp hd hg (w' := w.alloc (.cells z.cells T)) (by simp [Instr.alloc, Sem.run_bind, h0, newVar, newRow]) (hS _ e1) (h _ _ e1 rfl ?_)
  have := Cb.new w T z.cells.toList
  simpa using this
/-- A variable is made of a value. -/
theorem qA_bx {T : TypeId} {u : Value} {cs : List Value} (ho : nth L i = some o) (hp : o.op = .box T x) (hd : o.dst = some d) (hg : gd L l o.guard = some true) (hx : opv l x = some u) (hc : u.cells = cs.toArray) (hS : ∀ Y, Ex w Y → S Y)
    (h : ∀ N w', Ex w w' → N = w.heap.size → Cb w' N T cs → wpA P L S K r ((d, .pointer (some ⟨N, 0, none⟩)) :: l) w') : wpA P L S K ((false, i, m) :: r) l w := by
  have e1 := Ex.alloc w (.cells cs.toArray T)
  refine pA_val (w' := w.alloc (.cells cs.toArray T)) (v := .pointer (some ⟨w.heap.size, 0, none⟩)) ho hd hg (fun ρ hρ => ?_) (hS _ e1) (h _ _ e1 rfl (Cb.new w T cs))
  unfold execOp; rw [hp]
  refine run_valW _ ?_
  rw [hρ.opv hx]
  simp [Instr.box, Sem.run_bind, newVar, newRow, hc]
/-- A slice is made of values. -/
theorem qA_bs {e : TypeId} {n : Nat} (cs : List Value) (ho : nth L i = some o) (hd : o.dst = some d) (hg : gd L l o.guard = some true) (hk : known l o.op = true)
    (he : (execOp (rho l) o).run P w = .ok (.value (.slice (some ⟨w.heap.size, 0, none⟩) n n)) (w.alloc (.cells cs.toArray e))) (hS : ∀ Y, Ex w Y → S Y)
    (h : ∀ N w', Ex w w' → N = w.heap.size → Cb w' N e cs → wpA P L S K r ((d, .slice (some ⟨N, 0, none⟩) n n) :: l) w') : wpA P L S K ((false, i, m) :: r) l w :=
  qA_evW _ _ ho hd hg hk he (hS _ (Ex.alloc w _)) (h _ _ (Ex.alloc w _) rfl (Cb.new w e cs))
/-- One cell of it. -/
theorem qA_s1 {N j : Nat} {T ty : TypeId} {cs : List Value} {u : Value} (hC : Cb w N T cs) (hj : j < cs.length) (hi : (P.info? ty).map (·.size) = some 1) (h1 : u.oneCell' = true) (hv : u.cells = #[u]) (ho : nth L i = some o) (hp : o.op = .store ty x y) (hd : o.dst = none) (hg : gd L l o.guard = some true) (hx : opv l x = some (.pointer (some ⟨N, j, none⟩))) (hy : opv l y = some u)
    (hS : ∀ Y, Xs [N] w Y → S Y) (h : ∀ w', Xs [N] w w' → Cb w' N T (cs.set j u) → wpA P L S K r l w') : wpA P L S K ((false, i, m) :: r) l w :=
  qA_store ho hp hd hg hx hy (run_st hi h1 hv (hC.at (List.getElem?_eq_getElem hj)) (hC.frozen j)) (hS _ (Xs.set w N j u)) (h _ (Xs.set w N j u) (hC.set j u))
end
end Go.Proofs.YtbdmncpibnligaaGreatDoor.Pl
