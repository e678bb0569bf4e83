/- Sums and differences, limb by limb: plain lists and naturals. -/
import Derived.Test.YtnjkdplhoihkiaaC0
namespace Go.Proofs.Ytnjkdplhoihkiaa

/-- Two limbs. -/
abbrev P32 := { p : Nat × Nat // p.1 < 4294967296 ∧ p.2 < 4294967296 }

/-- The limbs of two rows, place by place, as many as the first one has. -/
def pairsL (xs ys : List Nat) (k : Nat) : List (Nat × Nat) := (List.range k).map fun j => (lb xs j, lb ys j)
theorem pairsL_succ (xs ys : List Nat) (k : Nat) : pairsL xs ys (k + 1) = pairsL xs ys k ++ [(lb xs k, lb ys k)] := by simp [pairsL, List.range_succ]
theorem pairsL_length (xs ys : List Nat) (k : Nat) : (pairsL xs ys k).length = k := by simp [pairsL]

def firsts (l : List P32) : List Nat := l.map (·.1.1)
def seconds (l : List P32) : List Nat := l.map (·.1.2)

theorem range_lb (xs : List Nat) (L : Nat) (h : xs.length ≤ L) : val ((List.range L).map fun j => lb xs j) = val xs := by
  rw [← val_take ((List.range L).map fun j => lb xs j) xs.length]
  · congr 1
    apply ext_lb
    · simp; omega
    · intro j hj
      simp at hj
      rw [lb_take (by omega)]
      simp [lb, show j < L by omega]
  · intro j h1 h2
    simp at h2
    simp [h2, lb_out h1]

theorem firsts_all {l : List P32} {xs ys : List Nat} (h : l.map (·.1) = pairsL xs ys xs.length) : val (firsts l) = val xs := by
  have : firsts l = (List.range xs.length).map fun j => lb xs j := by
    have := congrArg (List.map Prod.fst) h
    simpa [firsts, pairsL, List.map_map, Function.comp_def] using this
  rw [this, range_lb _ _ (Nat.le_refl _)]
theorem seconds_all {l : List P32} {xs ys : List Nat} (h : l.map (·.1) = pairsL xs ys xs.length) (hl : ys.length ≤ xs.length) : val (seconds l) = val ys := by
  have : seconds l = (List.range xs.length).map fun j => lb ys j := by
    have := congrArg (List.map Prod.snd) h
    simpa [seconds, pairsL, List.map_map, Function.comp_def] using this
  rw [this, range_lb _ _ hl]

/-- The limbs of a sum so far, and what is carried. -/
structure AddInv (pre : List P32) (o : List Nat) (c : Nat) : Prop where
  len : o.length = pre.length
  lt : ∀ x ∈ o, x < 4294967296
  carry : c ≤ 1
  val_eq : val o + c * 4294967296 ^ pre.length = val (firsts pre) + val (seconds pre)

theorem AddInv.start : AddInv [] [] 0 := ⟨rfl, by simp, by omega, by simp [firsts, seconds, val]⟩

theorem snoc_lt {o : List Nat} {x b : Nat} (h : ∀ y ∈ o, y < b) (hx : x < b) : ∀ y ∈ o ++ [x], y < b := by
  intro y hy
  rcases List.mem_append.1 hy with hy | hy
  · exact h y hy
  · simp at hy; omega

theorem AddInv.step {pre : List P32} {o : List Nat} {c : Nat} (h : AddInv pre o c) (p : P32) :
    AddInv (pre ++ [p]) (o ++ [(p.1.1 + p.1.2 + c) % 4294967296]) ((p.1.1 + p.1.2 + c) / 4294967296) := by
  have h1 := p.2.1
  have h2 := p.2.2
  have h3 := h.carry
  refine ⟨by simp [h.len], snoc_lt h.lt (Nat.mod_lt _ (by decide)), by omega, ?_⟩
  have e1 : firsts (pre ++ [p]) = firsts pre ++ [p.1.1] := by simp [firsts]
  have e2 : seconds (pre ++ [p]) = seconds pre ++ [p.1.2] := by simp [seconds]
  have l1 : (firsts pre).length = pre.length := by simp [firsts]
  have l2 : (seconds pre).length = pre.length := by simp [seconds]
  rw [e1, e2, val_append, val_append, val_append, l1, l2, h.len]
  simp only [val, Nat.mul_zero, Nat.add_zero, List.length_append, List.length_singleton, Nat.pow_succ]
  have e := h.val_eq
  generalize 4294967296 ^ pre.length = B at *
  have e3 : (p.1.1 + p.1.2 + c) = (p.1.1 + p.1.2 + c) % 4294967296 + (p.1.1 + p.1.2 + c) / 4294967296 * 4294967296 := by omega
  have e4 : (p.1.1 + p.1.2 + c) * B = (p.1.1 + p.1.2 + c) % 4294967296 * B + (p.1.1 + p.1.2 + c) / 4294967296 * 4294967296 * B := by
    conv => lhs; rw [e3]
    rw [Nat.add_mul]
  rw [Nat.add_mul, Nat.add_mul] at e4
  have e5 : (p.1.1 + p.1.2 + c) / 4294967296 * (B * 4294967296) = (p.1.1 + p.1.2 + c) / 4294967296 * 4294967296 * B := by
    rw [Nat.mul_comm B 4294967296, ← Nat.mul_assoc]
  rw [e5, Nat.mul_comm B, Nat.mul_comm B, Nat.mul_comm B]
  omega

theorem AddInv.done {pre : List P32} {o : List Nat} {c : Nat} (h : AddInv pre o c) {xs ys : List Nat} (hp : pre.map (·.1) = pairsL xs ys xs.length) (hl : ys.length ≤ xs.length) :
    val (o ++ [c]) = val xs + val ys := by
  rw [val_append, ← firsts_all hp, ← seconds_all hp hl, ← h.val_eq, h.len]
  simp only [val, Nat.mul_zero, Nat.add_zero]
  rw [Nat.mul_comm c]

/-- The limbs of a difference so far, and what is borrowed. -/
structure SubInv (pre : List P32) (o : List Nat) (c : Nat) : Prop where
  len : o.length = pre.length
  lt : ∀ x ∈ o, x < 4294967296
  carry : c ≤ 1
  val_eq : val o + val (seconds pre) = val (firsts pre) + c * 4294967296 ^ pre.length

theorem SubInv.start : SubInv [] [] 0 := ⟨rfl, by simp, by omega, by simp [firsts, seconds, val]⟩

def subD (x y c : Nat) : Nat := (x + 4294967296 + 4294967296 - y - c) % 4294967296
def subC (x y c : Nat) : Nat := if x < y + c then 1 else 0

theorem sub_step (x y c : Nat) (h1 : x < 4294967296) (h2 : y < 4294967296) (h3 : c ≤ 1) : subD x y c + y + c = x + subC x y c * 4294967296 := by
  unfold subD subC
  split
  · rename_i h
    have e : (x + 4294967296 + 4294967296 - y - c) % 4294967296 = x + 4294967296 - y - c := by
      rw [show x + 4294967296 + 4294967296 - y - c = (x + 4294967296 - y - c) + 4294967296 by omega, Nat.add_mod_right, Nat.mod_eq_of_lt (by omega)]
    rw [e]; omega
  · rename_i h
    have e : (x + 4294967296 + 4294967296 - y - c) % 4294967296 = x - y - c := by
      rw [show x + 4294967296 + 4294967296 - y - c = (x - y - c) + 4294967296 + 4294967296 by omega, Nat.add_mod_right, Nat.add_mod_right, Nat.mod_eq_of_lt (by omega)]
    rw [e]; omega

theorem subD_lt (x y c : Nat) : subD x y c < 4294967296 := by
  unfold subD
  exact Nat.mod_lt _ (by decide)
theorem subC_le (x y c : Nat) : subC x y c ≤ 1 := by unfold subC; split <;> omega

theorem val_one (x : Nat) : val [x] = x := rfl
theorem SubInv.step {pre : List P32} {o : List Nat} {c : Nat} (h : SubInv pre o c) (p : P32) :
    SubInv (pre ++ [p]) (o ++ [subD p.1.1 p.1.2 c]) (subC p.1.1 p.1.2 c) := by
  have h1 := p.2.1
  have h2 := p.2.2
  have h3 := h.carry
  have hs := sub_step p.1.1 p.1.2 c h1 h2 h3
  have k1 := subD_lt p.1.1 p.1.2 c
  have k2 := subC_le p.1.1 p.1.2 c
  generalize subD p.1.1 p.1.2 c = d at *
  generalize subC p.1.1 p.1.2 c = f at *
  refine ⟨by simp [h.len], snoc_lt h.lt k1, k2, ?_⟩
  have e1 : firsts (pre ++ [p]) = firsts pre ++ [p.1.1] := by simp [firsts]
  have e2 : seconds (pre ++ [p]) = seconds pre ++ [p.1.2] := by simp [seconds]
  have l1 : (firsts pre).length = pre.length := by simp [firsts]
  have l2 : (seconds pre).length = pre.length := by simp [seconds]
  rw [e1, e2, val_append, val_append, val_append, l1, l2, h.len, val_one, val_one, val_one, List.length_append, List.length_singleton, Nat.pow_succ]
  have e := h.val_eq
  generalize 4294967296 ^ pre.length = B at *
  have e4 : (d + p.1.2 + c) * B = (p.1.1 + f * 4294967296) * B := by rw [hs]
  rw [Nat.add_mul, Nat.add_mul, Nat.add_mul] at e4
  have e5 : f * (B * 4294967296) = f * 4294967296 * B := by
    rw [Nat.mul_comm B 4294967296, ← Nat.mul_assoc]
  rw [e5, Nat.mul_comm B, Nat.mul_comm B, Nat.mul_comm B]
  omega

theorem SubInv.done {pre : List P32} {o : List Nat} {c : Nat} (h : SubInv pre o c) {xs ys : List Nat} (hp : pre.map (·.1) = pairsL xs ys xs.length) (hl : ys.length ≤ xs.length) (hge : val ys ≤ val xs) :
    val o = val xs - val ys := by
  have e := h.val_eq
  rw [firsts_all hp, seconds_all hp hl] at e
  have hlt := val_lt o h.lt
  rw [h.len] at hlt
  have hc := h.carry
  generalize 4294967296 ^ pre.length = B at *
  have : c = 0 ∨ c = 1 := by omega
  rcases this with rfl | rfl <;> omega
end Go.Proofs.Ytnjkdplhoihkiaa
