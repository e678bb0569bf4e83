/- What Power knows on its way. -/
import Derived.Test.YtbdmncpibnligaaGreatDoorBbe

namespace Go.Proofs.YtbdmncpibnligaaGreatDoor
open Go.RowKit 
set_option linter.unusedVariables false
set_option linter.unusedSimpArgs false
set_option maxRecDepth 100000
set_option maxHeartbeats 4000000
theorem bitNN (w : World) (v : Value) (n k : Nat) (h : Un w v n) (hk : k ≤ 1000000) :
    Calls Tryz.prog 47 #[v, .int .i64 ((k : Nat) : Int)] w fun e w' => e = .returned (.int .u32 ((n / 2 ^ k % 2 : Nat) : Int)) ∧ Ext w w' :=
  bit_B w v n k h (by omega) (by omega) _ (by unfold bitN; rw [if_neg (by omega), Int.toNat_natCast])
/-- How often 2 divides. -/
def Tz (a t : Nat) : Prop := ∃ o, a = 2 ^ t * o ∧ o % 2 = 1
theorem odd_pw {o : Nat} (h : o % 2 = 1) (p : Nat) : o ^ p % 2 = 1 := by rw [Nat.pow_mod, h, Nat.one_pow]
theorem Tz.uniq {a s t : Nat} (h : Tz a s) (g : Tz a t) : s = t := by
  obtain ⟨o, h1, h2⟩ := h
  obtain ⟨u, g1, g2⟩ := g
  rcases Nat.lt_trichotomy s t with hl | hl | hl
  · exfalso
    obtain ⟨d, rfl⟩ : ∃ d, t = s + (d + 1) := ⟨t - s - 1, by omega⟩
    rw [h1, Nat.pow_add, Nat.mul_assoc] at g1
    have := Nat.eq_of_mul_eq_mul_left (Nat.two_pow_pos s) g1
    rw [Nat.pow_succ, Nat.mul_comm (2 ^ d), Nat.mul_assoc] at this
    omega
  · exact hl
  · exfalso
    obtain ⟨d, rfl⟩ : ∃ d, s = t + (d + 1) := ⟨s - t - 1, by omega⟩
    rw [g1, Nat.pow_add, Nat.mul_assoc] at h1
    have := Nat.eq_of_mul_eq_mul_left (Nat.two_pow_pos t) h1
    rw [Nat.pow_succ, Nat.mul_comm (2 ^ d), Nat.mul_assoc] at this
    omega
theorem Tz.has : ∀ a : Nat, a ≠ 0 → ∃ t, Tz a t := by
  intro a
  induction a using Nat.strongRecOn with
  | _ a ih =>
    intro h0
    rcases Nat.mod_two_eq_zero_or_one a with h | h
    · obtain ⟨t, o, h1, h2⟩ := ih (a / 2) (by omega) (by omega)
      exact ⟨t + 1, o, by rw [Nat.pow_succ, Nat.mul_comm (2 ^ t), Nat.mul_assoc, ← h1]; omega, h2⟩
    · exact ⟨0, a, by rw [Nat.pow_zero, Nat.one_mul], h⟩
theorem Tz.pow {a c p t : Nat} (h : Tz a t) (hc : c ^ p = a) (h0 : a ≠ 0) (hp : p ≠ 0) : ∃ s, Tz c s ∧ t = p * s := by
  obtain ⟨s, o, h1, h2⟩ := Tz.has c (fun e => h0 (by rw [← hc, e, Nat.zero_pow (by omega)]))
  refine ⟨s, ⟨o, h1, h2⟩, h.uniq ⟨o ^ p, ?_, odd_pw h2 p⟩⟩
  rw [← hc, h1, Nat.mul_pow, ← Nat.pow_mul, Nat.mul_comm s p]
theorem tz_start {a t : Nat} (h : 2 ^ t ∣ a) (hb : a / 2 ^ t % 2 ≠ 0) : Tz a t := by
  obtain ⟨o, rfl⟩ := h
  rw [Nat.mul_div_cancel_left _ (Nat.two_pow_pos t)] at hb
  exact ⟨o, rfl, by omega⟩
theorem tz_next {a t : Nat} (h : 2 ^ t ∣ a) (hb : a / 2 ^ t % 2 = 0) : 2 ^ (t + 1) ∣ a := by
  obtain ⟨o, rfl⟩ := h
  rw [Nat.mul_div_cancel_left _ (Nat.two_pow_pos t)] at hb
  exact ⟨o / 2, by rw [Nat.pow_succ, Nat.mul_assoc]; congr 1; omega⟩
theorem tz_lt {a t : Nat} (h : 2 ^ t ∣ a) (h0 : a ≠ 0) : t < blen a := lt_blen_of_le (Nat.le_of_dvd (Nat.pos_of_ne_zero h0) h)
/-- What Power knows on its way. -/
structure Pm (a b k t q : Nat) : Prop where
  eq : b ^ k = a
  k1 : 1 ≤ k
  b2 : 2 ≤ b
  ba : b ≤ a
  tz : Tz b t
  no : ∀ p, Rt.Pr p → p < q → ¬ Rt.isP b p
theorem isP_up {b c p q : Nat} (hc : c ^ q = b) (hp : p ≠ 0) (h : Rt.isP c p) : Rt.isP b p := by
  obtain ⟨d, hd⟩ := (Rt.isP_iff hp).1 h
  exact (Rt.isP_iff hp).2 ⟨d ^ q, by rw [← Nat.pow_mul, Nat.mul_comm, Nat.pow_mul, hd, hc]⟩
theorem Pm.step {a b k t q : Nat} (h : Pm a b k t q) (hq : 2 ≤ q) (he : Rt.kr b q ^ q = b) : Pm a (Rt.kr b q) (k * q) (t / q) q ∧ Rt.kr b q < b := by
  have h2 := h.b2
  have hc2 : 2 ≤ Rt.kr b q := Nat.lt_of_not_le fun hl => by
    have : Rt.kr b q ^ q ≤ 1 ^ q := Nat.pow_le_pow_left (by omega) q
    rw [he, Nat.one_pow] at this
    omega
  have hlt : Rt.kr b q < b := by
    have h3 : Rt.kr b q ^ 1 < Rt.kr b q ^ q := Nat.pow_lt_pow_right (by omega) (by omega)
    rwa [he, Nat.pow_one] at h3
  obtain ⟨s, hs, rfl⟩ := h.tz.pow he (by omega) (by omega)
  refine ⟨⟨?_, Nat.mul_pos h.k1 (by omega), hc2, by have := h.ba; omega, ?_, fun p hp hpq hi => h.no p hp hpq (isP_up he (by have := hp.1; omega) hi)⟩, hlt⟩
  · rw [Nat.mul_comm, Nat.pow_mul, he]; exact h.eq
  · rw [Nat.mul_div_cancel_left _ (by omega)]; exact hs
theorem Pm.next {a b k t q : Nat} (h : Pm a b k t q) (hn : ¬ Rt.isP b q) : Pm a b k t (q + 1) :=
  ⟨h.eq, h.k1, h.b2, h.ba, h.tz, fun p hp hl hi => by
    rcases Nat.lt_or_ge p q with h1 | h1
    · exact h.no p hp h1 hi
    · obtain rfl : p = q := by omega
      exact hn hi⟩
theorem Pm.skip {a b k t q : Nat} (h : Pm a b k t q) (hn : ¬ Rt.Pr q) : Pm a b k t (q + 1) :=
  ⟨h.eq, h.k1, h.b2, h.ba, h.tz, fun p hp hl hi => by
    rcases Nat.lt_or_ge p q with h1 | h1
    · exact h.no p hp h1 hi
    · obtain rfl : p = q := by omega
      exact hn hp⟩
theorem Pm.tw {a b k t q : Nat} (h : Pm a b k t q) (hq : q ≠ 0) (hm : t % q ≠ 0) : ¬ Rt.isP b q := fun hi => by
  obtain ⟨c, hc⟩ := (Rt.isP_iff hq).1 hi
  obtain ⟨s, _, rfl⟩ := h.tz.pow hc (by have := h.b2; omega) hq
  exact hm (Nat.mul_mod_right q s)
theorem Pm.may {b q : Nat} {r : Bool} (hm : (∃ c, c ^ q = b) → r = true) (hr : r = false) (hq : q ≠ 0) : ¬ Rt.isP b q := fun hi => by
  have := hm ((Rt.isP_iff hq).1 hi)
  rw [hr] at this
  cases this
theorem Pm.end1 {a b k t q : Nat} (h : Pm a b k t q) (hq : blen b ≤ q) : Rt.Prim b := Rt.prim_of fun p c hp e => by
  rcases Nat.lt_or_ge p q with h1 | h1
  · exact h.no p hp h1 ((Rt.isP_iff (by have := hp.1; omega)).2 ⟨c, e.symm⟩)
  · exact kr_two h.b2 (by omega) ((Rt.isP_iff (by have := hp.1; omega)).2 ⟨c, e.symm⟩)
theorem Pm.end2 {a b k t q : Nat} (h : Pm a b k t q) (hn : ¬ Rt.isP b q) (ht : 0 < t) (hq : t < q) : Rt.Prim b := Rt.prim_of fun p c hp e => by
  have hp0 : p ≠ 0 := by have := hp.1; omega
  rcases Nat.lt_or_ge p q with h1 | h1
  · exact h.no p hp h1 ((Rt.isP_iff hp0).2 ⟨c, e.symm⟩)
  · obtain ⟨s, _, h2⟩ := h.tz.pow e.symm (by have := h.b2; omega) hp0
    rcases Nat.eq_zero_or_pos s with rfl | hs
    · omega
    · have := Nat.le_mul_of_pos_right p hs; omega
theorem Pm.t_lt {a b k t q : Nat} (h : Pm a b k t q) : t < blen b := by
  obtain ⟨o, h1, h2⟩ := h.tz
  exact tz_lt ⟨o, h1⟩ (by have := h.b2; omega)
theorem Pm.k_lt {a b k t q : Nat} (h : Pm a b k t q) : k < blen a := lt_blen_of_le (by rw [← h.eq]; exact Nat.pow_le_pow_left h.b2 k)
/-- Power, in its loop. -/
structure PS (w : World) (D : Nat) (rec : Loop) (N0 N1 N2 N3 n : Nat) (va : Value) (b k t : Nat) (X : World) : Prop where
  c0 : Pl.Cb X N0 3 [.int .i64 ((n : Nat) : Int)]
  c1 : Pl.Cb X N1 22 [va]
  hu : Un X va b
  c2 : Pl.Cb X N2 3 [.int .i64 ((k : Nat) : Int)]
  c3 : Pl.Cb X N3 3 [.int .i64 ((t : Nat) : Int)]
  lq : Lq w D rec X
theorem PS.ex {w X Y : World} {D : Nat} {rec : Loop} {N0 N1 N2 N3 n : Nat} {va : Value} {b k t : Nat} (h : PS w D rec N0 N1 N2 N3 n va b k t X) (g : Pl.Ex X Y) : PS w D rec N0 N1 N2 N3 n va b k t Y :=
  ⟨h.c0.ex g, h.c1.ex g, Un.below h.hu g, h.c2.ex g, h.c3.ex g, h.lq.ex g⟩
theorem PS.bools {w X Y : World} {D M : Nat} {rec : Loop} {N0 N1 N2 N3 n : Nat} {va : Value} {b k t : Nat} {cs : List Bool} (h : PS w D rec N0 N1 N2 N3 n va b k t X) (ho : N0 < D ∧ N1 < D ∧ N2 < D ∧ N3 < D) (hD : w.heap.size ≤ D) (hM : D + 2 ≤ M) (hc : Pl.Cb X M 4 (bc cs)) (g : Pl.Xs [M] X Y) : PS w D rec N0 N1 N2 N3 n va b k t Y :=
  ⟨h.c0.xs g (by simp; omega), h.c1.xs g (by simp; omega), Un.bools h.hu hc (bc_is cs) g, h.c2.xs g (by simp; omega), h.c3.xs g (by simp; omega), h.lq.xs g (by simp; omega)⟩
/-- A natural isn't a loop's record. -/
theorem Un.loops {X Y : World} {v : Value} {n M : Nat} {rec : Loop} (h : Un X v n) (hM : X.heap[M]? = some (.loop rec)) (k : Pl.Xs [M] X Y) : Un Y v n := by
  obtain ⟨A, c, rfl, hc, hx, hr⟩ := h
  refine ⟨A, c, rfl, hc, hx, fun h0 => ?_⟩
  obtain ⟨ad, rfl, hlt, hcell⟩ := hr h0
  refine ⟨ad, rfl, Nat.lt_of_lt_of_le hlt k.size, fun j hj => ?_⟩
  have h1 := hcell j hj
  have hne : ad.block ≠ M := fun e => by
    unfold World.cell? at h1
    rw [addr_add_block, e, hM] at h1
    simp at h1
  rw [← h1]
  unfold World.cell?
  rw [addr_add_block, k.block _ hlt (by simpa using hne)]
theorem PS.put {w X Y : World} {D : Nat} {rec rec' : Loop} {N0 N1 N2 N3 n : Nat} {va : Value} {b k t : Nat} (h : PS w D rec N0 N1 N2 N3 n va b k t X) (ho : N0 < D ∧ N1 < D ∧ N2 < D ∧ N3 < D) (g : Pl.Xs [D + 1] X Y) (hL : Lq w D rec' Y) : PS w D rec' N0 N1 N2 N3 n va b k t Y :=
  ⟨h.c0.xs g (by simp; omega), h.c1.xs g (by simp; omega), Un.loops h.hu h.lq.loop g, h.c2.xs g (by simp; omega), h.c3.xs g (by simp; omega), hL⟩
/-- A natural isn't a variable of another kind. -/
theorem Un.one_cell {X Y : World} {v : Value} {n M : Nat} {T : TypeId} {u : Value} (h : Un X v n) (hM : Pl.Cb X M T [u]) (hu : ∀ z : Int, u ≠ .int .u32 z) (k : Pl.Xs [M] X Y) : Un Y v n := by
  obtain ⟨A, c, rfl, hc, hx, hr⟩ := h
  refine ⟨A, c, rfl, hc, hx, fun h0 => ?_⟩
  obtain ⟨ad, rfl, hlt, hcell⟩ := hr h0
  refine ⟨ad, rfl, Nat.lt_of_lt_of_le hlt k.size, fun j hj => ?_⟩
  have h1 := hcell j hj
  have hne : ad.block ≠ M := fun e => by
    have h2 : (ad.add j).block = M := by rw [addr_add_block]; exact e
    unfold World.cell? at h1
    rw [h2] at h1
    unfold Pl.Cb at hM
    rw [hM] at h1
    simp at h1
    obtain ⟨_, h3⟩ := h1
    have h4 := List.mem_of_getElem? h3
    simp at h4
    exact hu _ h4.symm
  rw [← h1]
  unfold World.cell?
  rw [addr_add_block, k.block _ hlt (by simpa using hne)]
end Go.Proofs.YtbdmncpibnligaaGreatDoor
