/- What the rounds of a transform in its place come to. -/
import Derived.Test.YtofhpfmgopmcmaaDoorF3
import Derived.Test.YtofhpfmgopmcmaaDoorY2
namespace Go.Proofs.YtofhpfmgopmcmaaDoor
set_option linter.unusedVariables false

/-- One pair on the way down. -/
def stp (f : Fd) (pw : List Nat) (h a j : Nat) (o : List Nat) : List Nat :=
  (o.set (a + j) ((lb o (a + j) + lb o (a + h + j)) % f.p)).set (a + h + j) (mm f (lb o (a + j) + f.p - lb o (a + h + j)) (lb pw (h + j)))
/-- One pair on the way up. -/
def stu (f : Fd) (pw : List Nat) (h a j : Nat) (o : List Nat) : List Nat :=
  (o.set (a + j) ((lb o (a + j) + mm f (lb o (a + h + j)) (lb pw (h + j))) % f.p)).set (a + h + j) ((lb o (a + j) + f.p - mm f (lb o (a + h + j)) (lb pw (h + j))) % f.p)
/-- The first j pairs of a block; the first b blocks. -/
def inn (st : Nat → Nat → List Nat → List Nat) (a : Nat) : Nat → List Nat → List Nat
  | 0, o => o
  | j + 1, o => st a j (inn st a j o)
def mid (st : Nat → Nat → List Nat → List Nat) (h : Nat) : Nat → List Nat → List Nat
  | 0, o => o
  | b + 1, o => inn st (b * (2 * h)) h (mid st h b o)

/-- A step that writes two places, out of these two alone. -/
structure Pair (st : Nat → Nat → List Nat → List Nat) (h n p : Nat) (F G : Nat → Nat → Nat → Nat) : Prop where
  len : ∀ a j o, (st a j o).length = o.length
  lt : ∀ a j o, (∀ x ∈ o, x < p) → ∀ x ∈ st a j o, x < p
  eq : ∀ a j o, o.length = n → j < h → a + 2 * h ≤ n → ∀ i, lb (st a j o) i = if i = a + h + j then G j (lb o (a + j)) (lb o (a + h + j)) else if i = a + j then F j (lb o (a + j)) (lb o (a + h + j)) else lb o i
theorem stp_pair (f : Fd) (hf : Good f) (pw : List Nat) (h n : Nat) : Pair (stp f pw h) h n f.p (fun _ x y => (x + y) % f.p) (fun j x y => mm f (x + f.p - y) (lb pw (h + j))) := by
  have p0 := hf.p0
  refine ⟨fun a j o => by simp [stp], fun a j o ho => set_lt (set_lt ho (Nat.mod_lt _ (by omega))) (mm_lt f hf _ _), fun a j o hl hj ha i => ?_⟩
  unfold stp
  rw [lb_set _ _ _ _ (by simp; omega), lb_set _ _ _ _ (by omega)]
  by_cases e : a + h + j = i
  · rw [if_pos e, if_pos e.symm]
  · rw [if_neg e, if_neg (Ne.symm e)]
    by_cases e2 : a + j = i
    · rw [if_pos e2, if_pos e2.symm]
    · rw [if_neg e2, if_neg (Ne.symm e2)]
theorem stu_pair (f : Fd) (hf : Good f) (pw : List Nat) (h n : Nat) : Pair (stu f pw h) h n f.p (fun j x y => (x + mm f y (lb pw (h + j))) % f.p) (fun j x y => (x + f.p - mm f y (lb pw (h + j))) % f.p) := by
  have p0 := hf.p0
  refine ⟨fun a j o => by simp [stu], fun a j o ho => set_lt (set_lt ho (Nat.mod_lt _ (by omega))) (Nat.mod_lt _ (by omega)), fun a j o hl hj ha i => ?_⟩
  unfold stu
  rw [lb_set _ _ _ _ (by simp; omega), lb_set _ _ _ _ (by omega)]
  by_cases e : a + h + j = i
  · rw [if_pos e, if_pos e.symm]
  · rw [if_neg e, if_neg (Ne.symm e)]
    by_cases e2 : a + j = i
    · rw [if_pos e2, if_pos e2.symm]
    · rw [if_neg e2, if_neg (Ne.symm e2)]
section
variable {st : Nat → Nat → List Nat → List Nat} {h n p : Nat} {F G : Nat → Nat → Nat → Nat} (H : Pair st h n p F G)
include H
theorem inn_len (a j : Nat) (o : List Nat) : (inn st a j o).length = o.length := by
  induction j with
  | zero => rfl
  | succ j ih => rw [inn, H.len, ih]
theorem inn_lt (a j : Nat) (o : List Nat) (ho : ∀ x ∈ o, x < p) : ∀ x ∈ inn st a j o, x < p := by
  induction j with
  | zero => exact ho
  | succ j ih => rw [inn]; exact H.lt _ _ _ ih
theorem inn_eq (a j : Nat) (o : List Nat) (hl : o.length = n) (hj : j ≤ h) (ha : a + 2 * h ≤ n) :
    (∀ i, i < j → lb (inn st a j o) (a + i) = F i (lb o (a + i)) (lb o (a + h + i)) ∧ lb (inn st a j o) (a + h + i) = G i (lb o (a + i)) (lb o (a + h + i))) ∧
    (∀ i, ((i < a ∨ a + 2 * h ≤ i) ∨ (∃ m, j ≤ m ∧ m < h ∧ (i = a + m ∨ i = a + h + m))) → lb (inn st a j o) i = lb o i) := by
  induction j with
  | zero => exact ⟨fun i hi => by omega, fun i _ => rfl⟩
  | succ j ih =>
    obtain ⟨h1, h2⟩ := ih (by omega)
    have hn := inn_len H a j o
    have e := H.eq a j (inn st a j o) (by omega) (by omega) ha
    rw [h2 (a + j) (.inr ⟨j, by omega, by omega, .inl rfl⟩), h2 (a + h + j) (.inr ⟨j, by omega, by omega, .inr rfl⟩)] at e
    refine ⟨fun i hi => ?_, fun i hi => ?_⟩
    · rw [inn, e, e, if_neg (by omega)]
      by_cases ei : i = j
      · subst ei; rw [if_pos rfl, if_pos rfl]; exact ⟨rfl, rfl⟩
      · rw [if_neg (by omega), if_neg (by omega), if_neg (by omega)]; exact h1 i (by omega)
    · rw [inn, e]
      rw [if_neg (by rcases hi with hi | ⟨m, h3, h4, h5⟩ <;> omega), if_neg (by rcases hi with hi | ⟨m, h3, h4, h5⟩ <;> omega)]
      exact h2 i (by rcases hi with hi | ⟨m, h3, h4, h5⟩; exact .inl hi; exact .inr ⟨m, by omega, h4, h5⟩)
theorem mid_len (b : Nat) (o : List Nat) : (mid st h b o).length = o.length := by
  induction b with
  | zero => rfl
  | succ b ih => rw [mid, inn_len H, ih]
theorem mid_lt (b : Nat) (o : List Nat) (ho : ∀ x ∈ o, x < p) : ∀ x ∈ mid st h b o, x < p := by
  induction b with
  | zero => exact ho
  | succ b ih => rw [mid]; exact inn_lt H _ _ _ ih
theorem mid_eq (b : Nat) (o : List Nat) (hl : o.length = n) (hb : b * (2 * h) ≤ n) :
    (∀ c i, c < b → i < h → lb (mid st h b o) (c * (2 * h) + i) = F i (lb o (c * (2 * h) + i)) (lb o (c * (2 * h) + h + i)) ∧ lb (mid st h b o) (c * (2 * h) + h + i) = G i (lb o (c * (2 * h) + i)) (lb o (c * (2 * h) + h + i))) ∧
    (∀ i, b * (2 * h) ≤ i → lb (mid st h b o) i = lb o i) := by
  induction b with
  | zero => exact ⟨fun c i hc => by omega, fun i _ => rfl⟩
  | succ b ih =>
    rw [Nat.add_mul, Nat.one_mul] at hb
    obtain ⟨h1, h2⟩ := ih (by omega)
    obtain ⟨g1, g2⟩ := inn_eq H (b * (2 * h)) h (mid st h b o) (by rw [mid_len H, hl]) (Nat.le_refl _) hb
    refine ⟨fun c i hc hi => ?_, fun i hi => ?_⟩
    · rw [mid]
      by_cases e : c = b
      · subst e
        rw [(g1 i hi).1, (g1 i hi).2, h2 _ (by omega), h2 _ (by omega)]
        exact ⟨rfl, rfl⟩
      · have : (c + 1) * (2 * h) ≤ b * (2 * h) := Nat.mul_le_mul_right _ (by omega)
        rw [Nat.add_mul, Nat.one_mul] at this
        rw [g2 _ (.inl (.inl (by omega))), g2 _ (.inl (.inl (by omega)))]
        exact h1 c i (by omega) hi
    · rw [Nat.add_mul, Nat.one_mul] at hi
      rw [mid, g2 _ (.inl (.inr hi)), h2 _ (by omega)]
end

/-- A product as it is told, modulo p. -/
theorem mm_mont_eqm (f : Fd) (hf : Good f) (x y : Nat) : Eqm (f.p : Int) ((mm f x (mont f y) : Nat) : Int) ((x : Int) * (y : Int)) := by
  rw [mm_comm, mm_mont f hf, Nat.mul_comm, ← Int.natCast_mul]; exact Eqm.nat_mod _ _
theorem add_eqm (p x y : Nat) : Eqm (p : Int) (((x + y) % p : Nat) : Int) ((x : Int) + (y : Int)) := by
  rw [← Int.natCast_add]; exact Eqm.nat_mod _ _
theorem sub_eqm (p x y : Nat) (hy : y ≤ p) : Eqm (p : Int) ((x + p - y : Nat) : Int) ((x : Int) - (y : Int)) := ⟨1, by omega⟩

/-- A list as a row of numbers. -/
def seq (l : List Nat) (i : Nat) : Int := ((lb l i : Nat) : Int)
/-- The state of a transform on the way down. -/
structure DownL (f : Fd) (k W : Nat) (l : List Nat) (s : Nat) (o : List Nat) : Prop where
  len : o.length = 2 ^ k
  lt : ∀ x ∈ o, x < f.p
  down : Down f.p W k s (seq l) (seq o)
theorem DownL.start (f : Fd) (k W : Nat) (l : List Nat) (h : l.length = 2 ^ k) (hl : ∀ x ∈ l, x < f.p) : DownL f k W l k l := ⟨h, hl, Down.start _ _ _ _⟩
theorem DownL.step {f : Fd} (hf : Good f) {k W : Nat} {l : List Nat} {s : Nat} {o pw : List Nat} (hr : Rt f.p W k) (hp : Pw f k W pw) (H : DownL f k W l (s + 1) o) (hs : s + 1 ≤ k) :
    DownL f k W l s (mid (stp f pw (2 ^ s)) (2 ^ s) (2 ^ (k - (s + 1))) o) := by
  have P := stp_pair f hf pw (2 ^ s) (2 ^ k)
  have hk : 2 ^ (k - (s + 1)) * (2 * 2 ^ s) = 2 ^ k := by rw [← Nat.pow_succ', ← Nat.pow_add]; congr 1; omega
  obtain ⟨e1, e2⟩ := mid_eq P (2 ^ (k - (s + 1))) o H.len (by omega)
  refine ⟨by rw [mid_len P, H.len], mid_lt P _ _ H.lt, H.down.step hr (fun b j hb hj => ?_) (fun b j hb hj => ?_)⟩
  · unfold seq
    rw [Nat.pow_succ', (e1 b j hb hj).1]
    exact add_eqm _ _ _
  · unfold seq
    rw [Nat.pow_succ', (e1 b j hb hj).2, hp.at_ s j (by omega) hj]
    refine (mm_mont_eqm f hf _ _).trans (Eqm.mul (sub_eqm _ _ _ (Nat.le_of_lt (lb_lt_of (by have := hf.p0; omega) H.lt _))) (Eqm.of_eq ?_))
    rw [Int.natCast_pow, show k - 1 - s = k - (s + 1) by omega]
/-- The state of a transform on the way up. -/
structure UpL (f : Fd) (k V : Nat) (l : List Nat) (s : Nat) (o : List Nat) : Prop where
  len : o.length = 2 ^ k
  lt : ∀ x ∈ o, x < f.p
  up : Up f.p V k s (seq l) (seq o)
theorem UpL.start (f : Fd) (k V : Nat) (l : List Nat) (h : l.length = 2 ^ k) (hl : ∀ x ∈ l, x < f.p) : UpL f k V l 0 l := ⟨h, hl, Up.start _ _ _ _⟩
theorem UpL.step {f : Fd} (hf : Good f) {k V : Nat} {l : List Nat} {s : Nat} {o pw : List Nat} (hr : Rt f.p V k) (hp : Pw f k V pw) (H : UpL f k V l s o) (hs : s + 1 ≤ k) :
    UpL f k V l (s + 1) (mid (stu f pw (2 ^ s)) (2 ^ s) (2 ^ (k - (s + 1))) o) := by
  have P := stu_pair f hf pw (2 ^ s) (2 ^ k)
  have hk : 2 ^ (k - (s + 1)) * (2 * 2 ^ s) = 2 ^ k := by rw [← Nat.pow_succ', ← Nat.pow_add]; congr 1; omega
  obtain ⟨e1, e2⟩ := mid_eq P (2 ^ (k - (s + 1))) o H.len (by omega)
  have hpw : ∀ x j, j < 2 ^ s → Eqm (f.p : Int) ((mm f x (lb pw (2 ^ s + j)) : Nat) : Int) ((x : Int) * (V : Int) ^ (2 ^ (k - (s + 1)) * j)) := fun x j hj => by
    rw [hp.at_ s j (by omega) hj]
    refine (mm_mont_eqm f hf _ _).trans (Eqm.of_eq ?_)
    rw [Int.natCast_pow, show k - 1 - s = k - (s + 1) by omega]
  refine ⟨by rw [mid_len P, H.len], mid_lt P _ _ H.lt, H.up.step hr hs (fun b j hb hj => ?_) (fun b j hb hj => ?_)⟩
  · unfold seq
    rw [Nat.pow_succ', (e1 b j hb hj).1]
    exact (add_eqm _ _ _).trans ((Eqm.refl _ _).add (hpw _ j hj))
  · unfold seq
    rw [Nat.pow_succ', (e1 b j hb hj).2]
    exact (Eqm.nat_mod _ _).trans ((sub_eqm _ _ _ (Nat.le_of_lt (mm_lt f hf _ _))).trans ((Eqm.refl _ _).sub (hpw _ j hj)))
end Go.Proofs.YtofhpfmgopmcmaaDoor
