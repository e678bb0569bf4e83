/- Numbers put where their places' bits, turned round, say. -/
import Derived.Test.YtofhpfmgopmcmaaDoorB1
namespace Go.Proofs.YtofhpfmgopmcmaaDoor
open Go.RowKit
set_option linter.unusedVariables false
set_option maxHeartbeats 400000

theorem rev_more (k m i : Nat) (h : i < 2 ^ k) : rev (k + m) i = 2 ^ m * rev k i := by
  induction m with
  | zero => simp
  | succ m ih =>
    rw [← Nat.add_assoc, rev_low _ _ 0 (Nat.lt_of_lt_of_le h (Nat.pow_le_pow_right (by decide) (by omega))), ih, Nat.pow_succ', Nat.mul_assoc]
theorem rev_shift (k i : Nat) (hk : k ≤ 32) (h : i < 2 ^ k) : rev 32 i / 2 ^ (32 - k) = rev k i := by
  have := rev_more k (32 - k) i h
  rw [show k + (32 - k) = 32 by omega] at this
  rw [this, Nat.mul_div_cancel_left _ (Nat.two_pow_pos _)]

/-- Behind the first i rounds. -/
structure Sw (k p i : Nat) (l o : List Nat) : Prop where
  len : o.length = 2 ^ k
  lt : ∀ x ∈ o, x < p
  at_ : ∀ j, j < 2 ^ k → lb o j = if j < i ∨ rev k j < i then lb l (rev k j) else lb l j
theorem Sw.start (k p : Nat) (l : List Nat) (h : l.length = 2 ^ k) (hl : ∀ x ∈ l, x < p) : Sw k p 0 l l :=
  ⟨h, hl, fun j hj => by rw [if_neg (by omega)]⟩
theorem Sw.keep {k p i : Nat} {l o : List Nat} (H : Sw k p i l o) (hi : i < 2 ^ k) (h : rev k i ≤ i) : Sw k p (i + 1) l o := by
  refine ⟨H.len, H.lt, fun j hj => ?_⟩
  rw [H.at_ j hj]
  by_cases e : j = i
  · subst e
    rw [if_pos (show j < j + 1 ∨ _ by omega)]
    by_cases e2 : rev k j < j
    · rw [if_pos (.inr e2)]
    · rw [show rev k j = j by omega]; simp
  · by_cases e2 : rev k j = i
    · have hji : j = rev k i := by rw [← e2, rev_rev k j hj]
      rw [if_pos (.inl (by omega)), if_pos (.inl (by omega))]
    · by_cases c : j < i ∨ rev k j < i
      · rw [if_pos c, if_pos (by omega)]
      · rw [if_neg c, if_neg (by omega)]
theorem Sw.swap {k p i : Nat} {l o : List Nat} (H : Sw k p i l o) (hi : i < 2 ^ k) (h : i < rev k i) : Sw k p (i + 1) l ((o.set i (lb o (rev k i))).set (rev k i) (lb o i)) := by
  have hr := rev_lt k i
  have hrr := rev_rev k i hi
  have hm : ∀ j, j < 2 ^ k → lb o j < p := fun j hj => by
    have hmem : lb o j ∈ o := by unfold lb; rw [List.getElem?_eq_getElem (by rw [H.len]; exact hj)]; exact List.getElem_mem _
    exact H.lt _ hmem
  have e1 := H.at_ i hi
  have e2 := H.at_ (rev k i) hr
  rw [hrr] at e2
  rw [if_neg (by omega)] at e1 e2
  refine ⟨by simp [H.len], set_lt (set_lt H.lt (hm _ hr)) (hm _ hi), fun j hj => ?_⟩
  rw [lb_set _ _ _ _ (by simp [H.len]; exact hr), lb_set _ _ _ _ (by rw [H.len]; exact hi)]
  by_cases c1 : rev k i = j
  · subst c1
    rw [if_pos rfl, hrr, if_pos (show _ ∨ i < i + 1 by omega), e1]
  · rw [if_neg c1]
    by_cases c2 : i = j
    · subst c2; rw [if_pos rfl, if_pos (show i < i + 1 ∨ _ by omega), e2]
    · rw [if_neg c2, H.at_ j hj]
      have c3 : rev k j ≠ i := fun e => c1 (by rw [← e, rev_rev k j hj])
      by_cases c : j < i ∨ rev k j < i
      · rw [if_pos c, if_pos (by omega)]
      · rw [if_neg c, if_neg (by omega)]

set_option maxRecDepth 100000 in
set_option maxHeartbeats 2000000 in
theorem swap_calls (w : World) (k p : Nat) (l : List Nat) (g c base : Nat) (hk : k ≤ 20) (hp0 : 0 < p) (hp : p ≤ 4294967296) (hl : l.length = 2 ^ k) (hlt : ∀ x ∈ l, x < p) (hown : Own w base (.slice (some ⟨g, 0, none⟩) l.length c) l) :
    Calls Tryd.prog 41 #[.slice (some ⟨g, 0, none⟩) l.length c, .int .i64 (k : Nat)] w fun e w' => e = .returned (.tuple #[]) ∧ (∃ o, Sw k p (2 ^ k) l o ∧ Own w' base (.slice (some ⟨g, 0, none⟩) o.length c) o) ∧ But g w w' := by
  obtain ⟨n, hn⟩ : ∃ n, 2 ^ k = n := ⟨_, rfl⟩
  have hn1 : n ≤ 1048576 := by rw [← hn]; exact Nat.pow_le_pow_right (by decide) hk
  have hcap := hown.caps
  have hgb := hown.block
  have HS : Hid (Sw k p 0 l l) := Sw.start k p l hl hlt
  rw [hn] at hl
  rw [hl] at hown hcap ⊢
  obtain ⟨hc1, hc2, hc3⟩ := hcap
  unfold maxLen at hc3
  have HN := Lib.hid hn
  obtain ⟨m, hm⟩ : ∃ m, 32 - k = m := ⟨_, rfl⟩
  have hmi : (32 : Int) - (k : Int) = (m : Int) := by omega
  have HM := Lib.hid hm
  have hm32 : m ≤ 32 := by omega
  have hB := But.refl g w
  clear hn hl hlt hm hc1
  go_enter Tryd.func41, Tryd.ntmps41
  go_wp2
  go_loopw [8] (fun t wr => ∃ (i : Nat) (o : List Nat), i ≤ n ∧ t = .int .i64 (i : Nat) ∧ Hid (Sw k p i l o) ∧ Own wr base (.slice (some ⟨g, 0, none⟩) n c) o ∧ But g w wr) (fun t _ => n - (intOf t).toNat)
  case atStart => exact ⟨0, l, Nat.zero_le _, rfl, HS, hown, hB⟩
  case round =>
    clear HS hown hB
    obtain ⟨i, o, hi, rfl, HS, hown, hB⟩ := hrel
    by_cases hlt : i < n
    · obtain ⟨r, hr⟩ : ∃ r, rev 32 i = r := ⟨_, rfl⟩
      obtain ⟨j, hj⟩ : ∃ j, rev k i = j := ⟨_, rfl⟩
      have hrj : ((r : Nat) : Int) / 2 ^ m = (j : Int) := by
        have := rev_shift k i (by omega) (by rw [HN.out]; exact hlt)
        rw [hr, hj, HM.out] at this
        rw [← this, Int.natCast_ediv, Int.natCast_pow]; rfl
      have hjn : j < n := by rw [← hj, ← HN.out]; exact rev_lt k i
      have hw : IntKind.u32.wrap (i : Int) = (i : Int) := by rw [IntKind.wrap_u32]; omega
      have HR := Lib.hid hr
      have HJ := Lib.hid hj
      clear hr hj
      go_wp2_with (fail)
      refine (r32_calls _ i (by omega)).mono ?_
      rintro e w' ⟨rfl, rfl⟩
      rw [HR.out]
      have hr32 : r < 4294967296 := by rw [← HR.out]; exact rev_lt 32 i
      by_cases hij : i < j
      · have hoL : o.length = n := by rw [HS.out.len]; exact HN.out
        have HSW : Hid (Sw k p (i + 1) l ((o.set i (lb o j)).set j (lb o i))) := by
          have := HS.out.swap (by rw [HN.out]; exact hlt) (by rw [HJ.out]; exact hij)
          rw [HJ.out] at this; exact this
        have hv1 : lb o i < 4294967296 := Nat.lt_of_lt_of_le (lb_lt_of (by omega) HS.out.lt _) hp
        have hc4 := hown.rd.2 i (by omega)
        have hc5 := hown.rd.2 j (by omega)
        have hf4 := hown.frozen' i
        have hf5 := hown.frozen' j
        have hs := (hown.set' i (lb o j)).set' j (lb o i)
        have hB2 := (hB.setCell i (.int .u32 (lb o j : Nat))).setCell j (.int .u32 (lb o i : Nat))
        generalize lb o i = x at *
        generalize lb o j = y at *
        have hne : ¬ i = j := by omega
        have hne2 : ¬ j = i := by omega
        clear hown hB HS hoL
        go_wp2
        go_region
        go_wp2
        go_roundw
        case rel => exact ⟨i + 1, _, by omega, by go_num, HSW, hs.drew, hB2.drew⟩
        case measure => simp [intOf]; omega
      · have HSK : Hid (Sw k p (i + 1) l o) := HS.out.keep (by rw [HN.out]; exact hlt) (by rw [HJ.out]; omega)
        clear HS
        go_wp2
        go_roundw
        case rel => exact ⟨i + 1, o, by omega, by go_num, HSK, hown, hB⟩
        case measure => simp [intOf]; omega
    · obtain rfl : i = n := by omega
      have HF : Hid (o.length = i) := by rw [Hid, HS.out.len]; exact HN.out
      go_wp2
      go_end0
      exact ⟨rfl, ⟨o, by rw [HN.out]; exact HS.out, by rw [HF.out]; exact hown⟩, hB⟩
end Go.Proofs.YtofhpfmgopmcmaaDoor
