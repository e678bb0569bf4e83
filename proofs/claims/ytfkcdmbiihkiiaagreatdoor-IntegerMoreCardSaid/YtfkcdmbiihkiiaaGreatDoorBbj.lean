/- The laws' questions at any base and any text: the program's answers and the document's are told alike. -/
import Derived.Test.YtfkcdmbiihkiiaaGreatDoorBbd
import Derived.Test.YtfkcdmbiihkiiaaGreatDoorBaj
import Derived.Laws.Concat

namespace Go.Proofs.YtfkcdmbiihkiiaaGreatDoor
open Go.RowKit
set_option linter.unusedVariables false
set_option maxHeartbeats 400000

/-- A call that reads a text: it answers these limbs, this place, this code. -/
def RdF (f : FuncId) (S : ByteArray) (b : Int) (xs : List Nat) (at_ c : Int) : Prop :=
  ∀ w, Calls Tryz.prog f #[.string S, .int .i64 b] w fun e w' => ∃ u, e = .returned (.tuple #[u, .int .i64 at_, .int .i64 c]) ∧ U w' u xs ∧ Ext w w'
/-- Where a text's first byte lies that is no digit. -/
theorem rd_cases (S : ByteArray) (b : Nat) : S.size = 0 ∨ (S.size ≠ 0 ∧ ∀ d ∈ worL S, d < b) ∨ ∃ i, i < S.size ∧ (∀ j, j < i → lb (worL S) j < b) ∧ b ≤ lb (worL S) i := by
  by_cases h0 : S.size = 0
  · exact .inl h0
  by_cases h1 : ∃ i, i < S.size ∧ b ≤ lb (worL S) i
  · refine .inr (.inr ?_)
    obtain ⟨i, hi, hb⟩ := h1
    induction i using Nat.strongRecOn with
    | ind i ih =>
      by_cases h2 : ∃ j, j < i ∧ b ≤ lb (worL S) j
      · obtain ⟨j, hj, hjb⟩ := h2
        exact ih j hj (by omega) hjb
      · refine ⟨i, hi, fun j hj => ?_, hb⟩
        rcases Nat.lt_or_ge (lb (worL S) j) b with h | h
        · exact h
        · exact absurd ⟨j, hj, h⟩ h2
  · refine .inr (.inl ⟨h0, fun d hd => ?_⟩)
    obtain ⟨j, hj, rfl⟩ := List.getElem_of_mem hd
    have h3 : lb (worL S) j = (worL S)[j] := by unfold lb; simp [hj]
    rw [← h3]
    rcases Nat.lt_or_ge (lb (worL S) j) b with h | h
    · exact h
    · exact absurd ⟨j, by rwa [worL_len] at hj, h⟩ h1
theorem rd_size (S : ByteArray) (b : Nat) (h2 : 2 ≤ b) (h36 : b ≤ 36) (hl : S.size ≤ 2000) : S.size ≤ 19000 ∧ (limbs (b ^ S.size)).length ≤ 398 := ⟨by omega, pow36 b _ h36 hl⟩

theorem tell_good (S : ByteArray) (b : Nat) (h2 : 2 ≤ b) (h36 : b ≤ 36) (hl : S.size ≤ 2000) (h0 : S.size ≠ 0) (hd : ∀ d ∈ worL S, d < b) :
    RdF 68 S b (limbs (bval b (worL S))) 0 0 ∧ RdF 69 S b (limbs (bval b (worL S))) 0 0 := by
  obtain ⟨hl2, hM⟩ := rd_size S b h2 h36 hl
  refine ⟨fun w => (read_good w S b _ h2 h36 hl2 hM h0 hd rfl).mono fun e w' ⟨u, he, hu, hE⟩ => ⟨u, he, hu, hE⟩, fun w => (rread_calls w S b h2 h36 hl2 hM).mono fun e w' h => ?_⟩
  obtain ⟨hE, ⟨i, hi, _, hb, _⟩ | ⟨h, _⟩ | ⟨_, _, u, he, hu⟩⟩ := h
  · exfalso
    have := hd _ (lb_mem (worL S) i (by rw [worL_len]; exact hi))
    omega
  · exact absurd h h0
  · exact ⟨u, he, hu, hE⟩
theorem tell_empty (S : ByteArray) (b : Nat) (h2 : 2 ≤ b) (h36 : b ≤ 36) (h0 : S.size = 0) :
    RdF 68 S b [] 0 50 ∧ RdF 69 S b [] 0 50 := by
  obtain ⟨hl2, hM⟩ := rd_size S b h2 h36 (by omega)
  refine ⟨fun w => (read_calls w S b h2 h36 hl2 hM).mono fun e w' h => ?_, fun w => (rread_calls w S b h2 h36 hl2 hM).mono fun e w' h => ?_⟩
  · rcases h with ⟨i, hi, _⟩ | ⟨_, he, hw⟩ | ⟨h, _⟩
    · omega
    · exact ⟨_, he, U.nil_ _ _ _, ext_eq hw⟩
    · exact absurd h0 h
  · obtain ⟨hE, ⟨i, hi, _⟩ | ⟨_, he⟩ | ⟨h, _⟩⟩ := h
    · omega
    · exact ⟨_, he, U.nil_ _ _ _, hE⟩
    · exact absurd h0 h
theorem tell_wrong (S : ByteArray) (b i : Nat) (h2 : 2 ≤ b) (h36 : b ≤ 36) (hl : S.size ≤ 2000) (hi : i < S.size) (h1 : ∀ j, j < i → lb (worL S) j < b) (hb : b ≤ lb (worL S) i) :
    RdF 68 S b [] (i : Nat) 50 ∧ RdF 69 S b [] (i : Nat) 50 := by
  obtain ⟨hl2, hM⟩ := rd_size S b h2 h36 hl
  refine ⟨fun w => (read_wrong w S b i h2 h36 hl2 hM hi h1 hb).mono fun e w' ⟨he, hw⟩ => ⟨_, he, U.nil_ _ _ _, ext_eq hw⟩, fun w => (rread_calls w S b h2 h36 hl2 hM).mono fun e w' h => ?_⟩
  obtain ⟨hE, ⟨j, hj, hj1, hjb, he⟩ | ⟨h, _⟩ | ⟨_, hd, _⟩⟩ := h
  · have : i = j := by
      rcases Nat.lt_trichotomy i j with h | h | h
      · have := hj1 i h; omega
      · exact h
      · have := h1 j h; omega
    subst this
    exact ⟨_, he, U.nil_ _ _ _, hE⟩
  · omega
  · exfalso
    have := hd _ (lb_mem (worL S) i (by rw [worL_len]; exact hi))
    omega
theorem base_cases (z : Int) : (z < 2 ∨ 36 < z) ∨ ∃ b : Nat, z = (b : Int) ∧ 2 ≤ b ∧ b ≤ 36 := by
  by_cases h : z < 2 ∨ 36 < z
  · exact .inl h
  · exact .inr ⟨z.toNat, by omega, by omega, by omega⟩
/-- Whatever the text and the base: both read alike. -/
theorem tell_read (S : ByteArray) (z : Int) (hl : S.size ≤ 2000) : ∃ xs at_ c, RdF 68 S z xs at_ c ∧ RdF 69 S z xs at_ c := by
  rcases base_cases z with h | ⟨b, rfl, h2, h36⟩
  · exact ⟨[], 0, 1, fun w => (read_bad w (.string S) z h).mono fun e w' ⟨he, hw⟩ => ⟨_, he, U.nil_ _ _ _, ext_eq hw⟩, fun w => (rread_bad w S z h).mono fun e w' ⟨he, hw⟩ => ⟨_, he, U.nil_ _ _ _, ext_eq hw⟩⟩
  · rcases rd_cases S b with h | ⟨h0, hd⟩ | ⟨i, hi, h1, hb⟩
    · exact ⟨_, _, _, tell_empty S b h2 h36 h⟩
    · exact ⟨_, _, _, tell_good S b h2 h36 hl h0 hd⟩
    · exact ⟨_, _, _, tell_wrong S b i h2 h36 hl hi h1 hb⟩
end Go.Proofs.YtfkcdmbiihkiiaaGreatDoor
/- Whole numbers: their texts. -/
namespace Go.Proofs.YtfkcdmbiihkiiaaGreatDoor
open Go.RowKit
set_option linter.unusedVariables false
set_option maxHeartbeats 400000

/-- The text of a whole number. -/
def strZ (z : Int) : ByteArray := if z < 0 then ⟨#[45]⟩ ++ strD (dt 10 z.natAbs) else strD (dt 10 z.natAbs)
theorem dt_size10 (n : Nat) (hl : (limbs n).length ≤ 390) : (strD (dt 10 n)).size ≤ 12480 := by rw [strD_size]; exact dt_len_bound 10 n (by decide) hl

set_option maxRecDepth 100000 in
set_option maxHeartbeats 8000000 in
theorem ztext (w : World) (va : Value) (a : Int) (ha : Zn w va a) (hl : (limbs a.natAbs).length ≤ 390) :
    Calls Tryz.prog 42 #[va] w fun e w' => e = .returned (.string (strZ a)) ∧ Ext w w' := by
  have hsz := dt_size10 a.natAbs hl
  have hst : strZ a = if a < 0 then ⟨#[45]⟩ ++ strD (dt 10 a.natAbs) else strD (dt 10 a.natAbs) := rfl
  obtain ⟨p, A, L, c, n, rfl, hu, hL, hz, -, hza, hzn⟩ := ha.open
  rw [hza] at hl hsz hst
  have hE0 := (Ext.refl w).alloc (.cells #[.bool p, .slice A L c] 24)
  have hP0 := Ib.new w p (.slice A L c) 24
  have hT := Lib.hid (text_calls _ (.slice A L c) n 10 (hu.below hE0) (by omega) (by decide) (by decide))
  generalize strD (dt 10 n) = T at *
  have hsz2 : ¬ (9223372036854775807 < 1 + T.size) := by omega
  clear hl hsz hza hz hL ha hu
  cases p
  · rw [if_neg (of_decide_eq_false hzn)] at hst
    have HST := Lib.hid hst
    clear hst hzn
    go_enter Tryz.func42, Tryz.ntmps42
    go_wp2_with (go_at_call 48; refine hT.out.mono ?_; rintro e w2 ⟨rfl, hE2⟩; obtain ⟨p0, p1, p2, p3, p4⟩ := hP0.ext hE2)
    go_ret
    exact ⟨by rw [HST.out]; first | done | rfl, hE0.below hE2⟩
  · rw [if_pos (of_decide_eq_true hzn)] at hst
    have HST := Lib.hid hst
    clear hst hzn
    go_enter Tryz.func42, Tryz.ntmps42
    go_wp2_with (go_at_call 48; refine hT.out.mono ?_; rintro e w2 ⟨rfl, hE2⟩; obtain ⟨p0, p1, p2, p3, p4⟩ := hP0.ext hE2)
    go_ret
    exact ⟨by rw [HST.out]; first | done | rfl, hE0.below hE2⟩

/-- Is there a sign ahead? -/
def ahd (S : ByteArray) : Nat := if h : 0 < S.size then (if (S[0]'h).toNat = 45 then 1 else 0) else 0
theorem ahd_le (S : ByteArray) : ahd S ≤ 1 ∧ ahd S ≤ S.size := by
  unfold ahd
  split
  · split <;> omega
  · omega

set_option maxRecDepth 100000 in
set_option maxHeartbeats 8000000 in
theorem zread_of (w : World) (S : ByteArray) (hl : S.size ≤ 1000000) (xs : List Nat) (at_ c : Int) (hR : RdF 68 (S.extract (ahd S) S.size) 10 xs at_ c) (hat : 0 ≤ at_ ∧ at_ ≤ 1000000) (hc : c = 0 → at_ = 0) :
    Calls Tryz.prog 36 #[.string S] w fun e w' => Ext w w' ∧ ((c ≠ 0 ∧ e = .returned (.tuple #[.agg #[.bool false, .slice none 0 0], .int .i64 ((ahd S : Nat) + at_), .int .i64 c])) ∨ (c = 0 ∧ ∃ u, e = .returned (.tuple #[u, .int .i64 0, .int .i64 0]) ∧ Zn w' u (sg (decide (ahd S = 1)) (val xs)))) := by
  have hle := ahd_le S
  have hE0 := (Ext.refl w).alloc (.cells #[.bool false, .slice none 0 0] 24)
  have hI0 := Ib.new w false (.slice none 0 0) 24
  have hie := isEmpty_size S
  have hcase : (ahd S = 0 ∧ S.size = 0) ∨ (∃ k : 0 < S.size, ∃ x, (S[0]'k).toNat = x ∧ x ≠ 45 ∧ ahd S = 0) ∨ (∃ k : 0 < S.size, (S[0]'k).toNat = 45 ∧ ahd S = 1) := by
    unfold ahd
    by_cases k : 0 < S.size
    · rw [dif_pos k]
      by_cases k2 : (S[0]'k).toNat = 45
      · rw [if_pos k2]
        exact .inr (.inr ⟨k, k2, rfl⟩)
      · rw [if_neg k2]
        exact .inr (.inl ⟨k, _, rfl, k2, rfl⟩)
    · rw [dif_neg k]
      exact .inl ⟨rfl, by omega⟩
  have hT0 : S.extract 0 S.size = S := by
    apply ByteArray.ext
    simp
  obtain ⟨T, hT⟩ : ∃ T, S.extract (ahd S) S.size = T := ⟨_, rfl⟩
  have hRd := Lib.hid hR
  rw [hT] at hRd
  have hMk := Lib.hid (fun W b v g => zmake W b v xs g (val xs) rfl _ rfl)
  obtain ⟨hat0, hat1⟩ := hat
  rcases hcase with ⟨h, h0⟩ | ⟨k, x, hx, hx45, h⟩ | ⟨k, hx, h⟩
  case' inl =>
    rw [h, hT0] at hT
    subst hT
    have HA : Hid (ahd S = 0) := h
    rw [h0] at hie
    have hie2 : S.toList.isEmpty = true := by rw [hie]; rfl
    clear h0
    have hM := Lib.hid (hMk.out · false)
  case' inr.inl =>
    rw [h, hT0] at hT
    subst hT
    have HA : Hid (ahd S = 0) := h
    have hie2 : S.toList.isEmpty = false := by rw [hie]; exact decide_eq_false (by omega)
    have hx2 : ¬ ((x : Int) = 45) := by omega
    have hx3 : ((x : Int) == 45) = false := by rw [beq_eq_false_iff_ne]; exact hx2
    have hM := Lib.hid (hMk.out · false)
  case' inr.inr =>
    rw [h] at hT
    have HA : Hid (ahd S = 1) := h
    have hie2 : S.toList.isEmpty = false := by rw [hie]; exact decide_eq_false (by omega)
    have hM := Lib.hid (hMk.out · true)
    have hk1 : 1 ≤ S.size := by omega
  all_goals (
    clear hR hle hie hMk h
    by_cases hc0 : c = 0
    · have ha0 := hc hc0
      subst hc0
      subst ha0
      clear hc hat0 hat1 hl
      go_enter Tryz.func36, Tryz.ntmps36
      go_wp2_with (first
        | (go_at_call 68; refine (hRd.out _).mono ?_; rintro e w2 ⟨u, rfl, hu2, hE2⟩; obtain ⟨A2, l2, c2, rfl⟩ := U.sl hu2)
        | (go_at_call 21; refine (hM.out _ _ hu2).mono ?_; rintro e w3 ⟨u, rfl, hz3, hE3⟩; obtain ⟨b3, A3, L3, c3, rfl⟩ := hz3.sh; have hI3 := (hI0.ext hE2).ext hE3; obtain ⟨i0, i1, i2, i3, i4⟩ := id hI3))
      (try simp only [Exit.inBlock, Exit.then])
      refine bodyPost_ret (v := .tuple #[.agg #[.bool b3, .slice A3 L3 c3], .int .i64 0, .int .i64 0]) (show (results _ _).run _ _ = _ from ?_) rfl ⟨((hE0.below hE2).below hE3).put2 (by omega) _ _, .inr ⟨by trivial, _, rfl, by rw [HA.out]; exact hz3.put2 hI3 (slice_no_int _ _ _) _ _⟩⟩
      simp only [results]
      go_simp
    · have hcn : (c != 0) = true := by rw [bne_iff_ne]; exact hc0
      have HC := Lib.hid hc0
      clear hc hc0 hM
      go_enter Tryz.func36, Tryz.ntmps36
      go_wp2_with (first
        | (go_at_call 68; refine (hRd.out _).mono ?_; rintro e w2 ⟨u, rfl, hu2, hE2⟩; obtain ⟨A2, l2, c2, rfl⟩ := U.sl hu2; obtain ⟨i0, i1, i2, i3, i4⟩ := hI0.ext hE2))
      (try simp only [Exit.inBlock, Exit.then])
      refine bodyPost_ret (v := .tuple #[.agg #[.bool false, .slice none 0 0], .int .i64 ((ahd S : Nat) + at_), .int .i64 c]) (show (results _ _).run _ _ = _ from ?_) rfl ⟨(hE0.below hE2).put2 (by omega) _ _, .inl ⟨HC.out, rfl⟩⟩
      rw [HA.out]
      simp only [results]
      go_simp)
end Go.Proofs.YtfkcdmbiihkiiaaGreatDoor
