/- Which orders a drawn region allows, by masks of bits. -/
import Derived.Deep.RegionHeld3
namespace Go.Proofs.YtmioaeaobefphaaDoor.Pl
open Go
set_option linter.unusedVariables false

/-! Which orders a drawn region allows, by masks of bits: one check for the whole region. -/
def bitsOf : List Nat → Nat
  | [] => 0
  | x :: l => Nat.lor (bitsOf l) (Nat.shiftLeft 1 x)
def tb (m j : Nat) : Bool := Nat.beq (Nat.land (Nat.shiftRight m j) 1) 1

theorem beq_iff (a b : Nat) : Nat.beq a b = true ↔ a = b := ⟨Nat.eq_of_beq_eq_true, fun h => by subst h; exact Nat.beq_refl _⟩
theorem tb_eq (m j : Nat) : tb m j = m.testBit j := by
  have h2 := Nat.mod_two_eq_zero_or_one (m >>> j)
  have h : Nat.land (Nat.shiftRight m j) 1 = (m >>> j) % 2 := Nat.and_one_is_mod (m >>> j)
  unfold tb Nat.testBit
  rw [h, Nat.and_comm, Nat.and_one_is_mod]
  rcases h2 with h2 | h2 <;> rw [h2] <;> rfl
theorem testBit_one (x k : Nat) : (Nat.shiftLeft 1 x).testBit k = decide (k = x) := by
  have h : Nat.shiftLeft 1 x = 2 ^ x := by show 1 <<< x = 2 ^ x; rw [Nat.shiftLeft_eq, Nat.one_mul]
  rw [h, Nat.testBit_two_pow]
  by_cases e : x = k
  · subst e; simp
  · rw [decide_eq_false e, decide_eq_false (fun h => e h.symm)]
theorem testBit_bitsOf (k : Nat) : ∀ l : List Nat, (bitsOf l).testBit k = true ↔ k ∈ l
  | [] => by simp [bitsOf]
  | x :: l => by
    have h : (bitsOf (x :: l)).testBit k = ((bitsOf l).testBit k || (Nat.shiftLeft 1 x).testBit k) := Nat.testBit_or _ _ _
    rw [h, Bool.or_eq_true, testBit_bitsOf k l, testBit_one, decide_eq_true_eq, List.mem_cons, or_comm]

theorem land_sub {a m : Nat} (h : Nat.beq (Nat.land a m) a = true) (k : Nat) (hk : a.testBit k = true) : m.testBit k = true := by
  have h := (beq_iff _ _).1 h
  have h2 : (Nat.land a m).testBit k = (a.testBit k && m.testBit k) := Nat.testBit_and _ _ _
  rw [h, hk, Bool.true_and] at h2
  exact h2.symm
theorem sub_land {a m : Nat} (h : ∀ k, a.testBit k = true → m.testBit k = true) : Nat.beq (Nat.land a m) a = true := by
  rw [beq_iff]
  refine Nat.eq_of_testBit_eq fun k => ?_
  have h2 : (Nat.land a m).testBit k = (a.testBit k && m.testBit k) := Nat.testBit_and _ _ _
  rw [h2]
  cases hk : a.testBit k
  · rfl
  · rw [h k hk]; rfl
theorem land_none {a m : Nat} (h : Nat.beq (Nat.land a m) 0 = true) (k : Nat) (hk : a.testBit k = true) : m.testBit k = false := by
  have h := (beq_iff _ _).1 h
  have h2 : (Nat.land a m).testBit k = (a.testBit k && m.testBit k) := Nat.testBit_and _ _ _
  rw [h, hk, Bool.true_and, Nat.zero_testBit] at h2
  exact h2.symm

structure Tb where
  A : Nat
  D : Nat
  L : Nat
def dm : Option Nat → Nat
  | some d => Nat.shiftLeft 1 d
  | none => 0
def row (ops : Array Oper) (o : Oper) : Tb := ⟨bitsOf ((o.after.toList.filter (Region.binds .any)).map (·.on)), dm o.dst, bitsOf (o.looksAt ops)⟩
def tabs (ops : Array Oper) : List Tb := ops.toList.map (row ops)

def freeIn (i D L M : Nat) : List Tb → Nat → Bool
  | [], _ => true
  | t :: l, j => (Nat.beq j i || tb M j || tb t.A i || (Nat.beq (Nat.land D (Nat.lor t.L t.D)) 0 && Nat.beq (Nat.land t.D L) 0)) && freeIn i D L M l (j + 1)
def onlyIn (i M : Nat) : List Tb → Nat → Bool
  | [], _ => true
  | t :: l, j => (Nat.beq j i || tb M j || !(Nat.beq (Nat.land t.A M) t.A)) && onlyIn i M l (j + 1)

/-- A plan: is it taken first, which one, what has come up before it (as a mask). -/
def planOk (T : List Tb) (e : Nat) : List (Bool × Nat × Nat) → Nat → Bool
  | [], M => Nat.beq M e
  | (k, i, m) :: r, M => Nat.beq M m && (match T[i]? with
      | none => false
      | some t => !(tb m i) && Nat.beq (Nat.land t.A m) t.A && (match k with | true => freeIn i t.D t.L m T 0 | false => onlyIn i m T 0)) && planOk T e r (Nat.lor m (Nat.shiftLeft 1 i))

theorem freeIn_spec {i D L M : Nat} : ∀ (l : List Tb) (j : Nat), freeIn i D L M l j = true → ∀ (k : Nat) (t : Tb), l[k]? = some t → j + k ≠ i → M.testBit (j + k) = false → t.A.testBit i = false →
    Nat.beq (Nat.land D (Nat.lor t.L t.D)) 0 = true ∧ Nat.beq (Nat.land t.D L) 0 = true
  | [], _, _, k, t, h, _, _, _ => by simp at h
  | x :: l, j, h, k, t, hk, hi, hM, hA => by
    rw [freeIn, Bool.and_eq_true] at h
    cases k with
    | zero =>
      obtain rfl : x = t := by simpa using hk
      rw [Nat.add_zero] at hi hM
      have h1 := h.1
      rw [tb_eq, tb_eq, hM, hA, Bool.or_false, Bool.or_false, Bool.or_eq_true, beq_iff, Bool.and_eq_true] at h1
      rcases h1 with h1 | h1
      · exact absurd h1 hi
      · exact h1
    | succ k =>
      have hs : j + (k + 1) = (j + 1) + k := by omega
      rw [hs] at hi hM
      exact freeIn_spec l (j + 1) h.2 k t (by simpa using hk) hi hM hA
theorem onlyIn_spec {i M : Nat} : ∀ (l : List Tb) (j : Nat), onlyIn i M l j = true → ∀ (k : Nat) (t : Tb), l[k]? = some t → j + k ≠ i → M.testBit (j + k) = false → Nat.beq (Nat.land t.A M) t.A = false
  | [], _, _, k, t, h, _, _ => by simp at h
  | x :: l, j, h, k, t, hk, hi, hM => by
    rw [onlyIn, Bool.and_eq_true] at h
    cases k with
    | zero =>
      obtain rfl : x = t := by simpa using hk
      rw [Nat.add_zero] at hi hM
      have h1 := h.1
      rw [tb_eq, hM, Bool.or_false, Bool.or_eq_true, beq_iff] at h1
      rcases h1 with h1 | h1
      · exact absurd h1 hi
      · simpa using h1
    | succ k =>
      have hs : j + (k + 1) = (j + 1) + k := by omega
      rw [hs] at hi hM
      exact onlyIn_spec l (j + 1) h.2 k t (by simpa using hk) hi hM

/-- The mask tells what has come up. -/
def Lst (n M : Nat) (listed : Array Bool) : Prop := listed.size = n ∧ ∀ j, listed.getD j false = M.testBit j
theorem Lst.new (n : Nat) : Lst n 0 (Array.replicate n false) := ⟨by simp, fun j => by
  rw [Nat.zero_testBit, Array.getD_eq_getD_getElem?]
  by_cases h : j < n
  · simp [h]
  · simp [h]⟩
theorem Lst.t {n M : Nat} {listed : Array Bool} (h : Lst n M listed) {j : Nat} (hj : j < n) : listed.getD j true = M.testBit j := by
  rw [← h.2 j, Array.getD_eq_getD_getElem?, Array.getD_eq_getD_getElem?]
  have : j < listed.size := by rw [h.1]; exact hj
  simp [this]
theorem Lst.put {n M : Nat} {listed : Array Bool} (h : Lst n M listed) {i : Nat} (hi : i < n) : Lst n (Nat.lor M (Nat.shiftLeft 1 i)) (listed.setIfInBounds i true) := ⟨by rw [Array.size_setIfInBounds]; exact h.1, fun j => by
  have h2 : (Nat.lor M (Nat.shiftLeft 1 i)).testBit j = (M.testBit j || (Nat.shiftLeft 1 i).testBit j) := Nat.testBit_or _ _ _
  rw [h2, testBit_one, ← h.2 j, Array.getD_eq_getD_getElem?, Array.getD_eq_getD_getElem?]
  by_cases e : i = j
  · subst e
    have : i < listed.size := by rw [h.1]; exact hi
    simp [this]
  · rw [Array.getElem?_setIfInBounds_ne e]
    simp [show ¬ j = i from fun x => e x.symm]⟩

theorem tabs_at {ops : Array Oper} {j : Nat} {o : Oper} (h : ops[j]? = some o) : (tabs ops)[j]? = some (row ops o) := by
  unfold tabs
  rw [List.getElem?_map, Array.getElem?_toList, h]; rfl
theorem tabs_has {ops : Array Oper} {j : Nat} {t : Tb} (h : (tabs ops)[j]? = some t) : ∃ o, ops[j]? = some o ∧ t = row ops o := by
  unfold tabs at h
  rw [List.getElem?_map, Array.getElem?_toList] at h
  cases ho : ops[j]? with
  | none => rw [ho] at h; cases h
  | some o => rw [ho] at h; exact ⟨o, rfl, (Option.some.inj h).symm⟩
theorem row_A {ops : Array Oper} {o : Oper} {k : Nat} : (row ops o).A.testBit k = true ↔ ∃ e ∈ o.after, Region.binds .any e = true ∧ e.on = k := by
  show (bitsOf _).testBit k = true ↔ _
  rw [testBit_bitsOf]
  simp only [List.mem_map, List.mem_filter, Array.mem_toList_iff]
  exact ⟨fun ⟨e, ⟨h1, h2⟩, h3⟩ => ⟨e, h1, h2, h3⟩, fun ⟨e, h1, h2, h3⟩ => ⟨e, ⟨h1, h2⟩, h3⟩⟩
theorem dm_bit {d : Nat} : (dm (some d)).testBit d = true := by show (Nat.shiftLeft 1 d).testBit d = true; rw [testBit_one]; simp

theorem apart_of {ops : Array Oper} {x y : Oper} (h1 : Nat.beq (Nat.land (row ops x).D (Nat.lor (row ops y).L (row ops y).D)) 0 = true) (h2 : Nat.beq (Nat.land (row ops y).D (row ops x).L) 0 = true) : x.apart ops y = true := by
  unfold Oper.apart
  rw [Bool.and_eq_true]
  constructor
  · cases hx : x.dst with
    | none => rfl
    | some d =>
      have hb : (row ops x).D.testBit d = true := by show (dm x.dst).testBit d = true; rw [hx]; exact dm_bit
      have h3 := land_none h1 d hb
      have h4 : (Nat.lor (row ops y).L (row ops y).D).testBit d = ((row ops y).L.testBit d || (row ops y).D.testBit d) := Nat.testBit_or _ _ _
      rw [h4, Bool.or_eq_false_iff] at h3
      have h5 : d ∉ y.looksAt ops := fun hm => by
        have := (testBit_bitsOf d (y.looksAt ops)).2 hm
        have e : (row ops y).L.testBit d = true := this
        rw [e] at h3; exact absurd h3.1 (by simp)
      have h6 : y.dst ≠ some d := fun hd => by
        have e : (row ops y).D.testBit d = true := by show (dm y.dst).testBit d = true; rw [hd]; exact dm_bit
        rw [e] at h3; exact absurd h3.2 (by simp)
      simp [h5, h6]
  · cases hy : y.dst with
    | none => rfl
    | some d =>
      have hb : (row ops y).D.testBit d = true := by show (dm y.dst).testBit d = true; rw [hy]; exact dm_bit
      have h3 := land_none h2 d hb
      have h5 : d ∉ x.looksAt ops := fun hm => by
        have := (testBit_bitsOf d (x.looksAt ops)).2 hm
        have e : (row ops x).L.testBit d = true := this
        rw [e] at h3; exact absurd h3 (by simp)
      simp [h5]

section
variable {P : Program} {ops : Array Oper} {Q : Exit → Act → World → Prop} {S : World → Prop}

theorem ready_iff {n M : Nat} {listed : Array Bool} (hL : Lst ops.size M listed) {j : Nat} : j ∈ Region.ready .any ops listed ↔ ∃ o, ops[j]? = some o ∧ M.testBit j = false ∧ Nat.beq (Nat.land (row ops o).A M) (row ops o).A = true := by
  rw [mem_ready]
  constructor
  · rintro ⟨h1, o, ho, h⟩
    have hj : j < ops.size := (Array.getElem?_eq_some_iff.1 ho).1
    refine ⟨o, ho, (hL.t hj).symm.trans h1, sub_land fun k hk => ?_⟩
    obtain ⟨e, he, hb, rfl⟩ := row_A.1 hk
    exact (hL.2 _).symm.trans (h e he hb)
  · rintro ⟨o, ho, h1, h⟩
    have hj : j < ops.size := (Array.getElem?_eq_some_iff.1 ho).1
    exact ⟨(hL.t hj).trans h1, o, ho, fun e he hb => (hL.2 _).trans (land_sub h _ (row_A.2 ⟨e, he, hb, rfl⟩))⟩

/-- Which may come up now: none but these, and the first one may. -/
def rdyIn (M : Nat) (rs : List Nat) : List Tb → Nat → Bool
  | [], _ => true
  | t :: l, j => (rs.elem j || tb M j || !(Nat.beq (Nat.land t.A M) t.A)) && rdyIn M rs l (j + 1)
def mayCome (T : List Tb) (M i : Nat) : Bool := match T[i]? with
  | none => false
  | some t => !(tb M i) && Nat.beq (Nat.land t.A M) t.A
def rdyOk (T : List Tb) (M : Nat) (rs : List Nat) : Bool := rdyIn M rs T 0 && (match rs with
  | [] => false
  | i :: _ => mayCome T M i)
theorem rdyIn_spec {M : Nat} {rs : List Nat} : ∀ (l : List Tb) (j : Nat), rdyIn M rs l j = true → ∀ (k : Nat) (t : Tb), l[k]? = some t → M.testBit (j + k) = false → Nat.beq (Nat.land t.A M) t.A = true → j + k ∈ rs
  | [], _, _, k, t, h, _, _ => by simp at h
  | x :: l, j, h, k, t, hk, hM, hA => by
    rw [rdyIn, Bool.and_eq_true] at h
    cases k with
    | zero =>
      obtain rfl : x = t := by simpa using hk
      rw [Nat.add_zero] at hM ⊢
      have h1 := h.1
      rw [tb_eq, hM, hA, Bool.or_false, Bool.not_true, Bool.or_false] at h1
      simpa using h1
    | succ k =>
      have hs : j + (k + 1) = (j + 1) + k := by omega
      rw [hs] at hM ⊢
      exact rdyIn_spec l (j + 1) h.2 k t (by simpa using hk) hM hA

theorem wpAnyH_fuel : ∀ {f g : Nat} {listed : Array Bool} {a : Act} {w : World}, f ≤ g → wpAnyH P .any ops Q S f listed a w → wpAnyH P .any ops Q S g listed a w
  | 0, g, listed, a, w, _, h => wpAnyH_done h.1 h.2 g
  | f + 1, 0, _, _, _, hle, _ => absurd hle (by omega)
  | f + 1, g + 1, listed, a, w, hle, h => ⟨h.1, fun i hi => wpOp_mono (fun a' w' hx => ⟨hx.1, wpAnyH_fuel (Nat.le_of_succ_le_succ hle) hx.2⟩) (h.2 i hi)⟩
theorem full_ready {listed : Array Bool} (hL : Lst ops.size (2 ^ ops.size - 1) listed) : Region.ready .any ops listed = [] := by
  cases hr : Region.ready .any ops listed with
  | nil => rfl
  | cons j l =>
    have hj : j ∈ Region.ready .any ops listed := by rw [hr]; exact List.mem_cons_self
    obtain ⟨o, ho, h1, _⟩ := (ready_iff (n := 0) hL).1 hj
    have hlt : j < ops.size := (Array.getElem?_eq_some_iff.1 ho).1
    rw [Nat.testBit_two_pow_sub_one, decide_eq_true hlt] at h1
    cases h1
end
end Go.Proofs.YtmioaeaobefphaaDoor.Pl
