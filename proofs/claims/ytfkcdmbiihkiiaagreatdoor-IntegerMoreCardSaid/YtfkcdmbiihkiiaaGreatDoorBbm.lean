/- The document's texts of whole numbers. -/
import Derived.Test.YtfkcdmbiihkiiaaGreatDoorBbj
import Derived.Test.YtfkcdmbiihkiiaaGreatDoorBbe
import Derived.Laws.Concat

namespace Go.Proofs.YtfkcdmbiihkiiaaGreatDoor
open Go.RowKit
set_option linter.unusedVariables false
set_option maxHeartbeats 400000

set_option maxRecDepth 100000 in
set_option maxHeartbeats 8000000 in
theorem rztext (w : World) (va : Value) (a : Int) (ha : Zn w va a) (hl : (limbs a.natAbs).length ≤ 390) :
    Calls Tryz.prog 43 #[va] w fun e w' => e = .returned (.string (strZ a)) ∧ Ext w w' := by
  have hsz := dt_size10 a.natAbs hl
  have hst : strZ a = if a < 0 then ⟨#[45]⟩ ++ strD (dt 10 a.natAbs) else strD (dt 10 a.natAbs) := rfl
  obtain ⟨p, A, L, c, n, rfl, hu, hL, hz, -, hza, hzn⟩ := ha.open
  rw [hza] at hl hsz hst
  have hE0 := (Ext.refl w).alloc (.cells #[.bool p, .slice A L c] 24)
  have hP0 := Ib.new w p (.slice A L c) 24
  have hT := Lib.hid (rtext_calls _ (.slice A L c) n 10 (hu.below hE0) (by omega) (by decide) (by decide))
  generalize strD (dt 10 n) = T at *
  have hsz2 : ¬ (9223372036854775807 < 1 + T.size) := by omega
  clear hl hsz hza hz hL ha hu
  cases p
  · rw [if_neg (of_decide_eq_false hzn)] at hst
    have HST := Lib.hid hst
    clear hst hzn
    go_enter Tryz.func43, Tryz.ntmps43
    go_wp2_with (go_at_call 77; refine hT.out.mono ?_; rintro e w2 ⟨rfl, hE2⟩; obtain ⟨p0, p1, p2, p3, p4⟩ := hP0.ext hE2)
    go_ret
    exact ⟨by rw [HST.out]; first | done | rfl, hE0.below hE2⟩
  · rw [if_pos (of_decide_eq_true hzn)] at hst
    have HST := Lib.hid hst
    clear hst hzn
    go_enter Tryz.func43, Tryz.ntmps43
    go_wp2_with (go_at_call 77; refine hT.out.mono ?_; rintro e w2 ⟨rfl, hE2⟩; obtain ⟨p0, p1, p2, p3, p4⟩ := hP0.ext hE2)
    go_ret
    exact ⟨by rw [HST.out]; first | done | rfl, hE0.below hE2⟩

set_option maxRecDepth 100000 in
set_option maxHeartbeats 8000000 in
theorem rzread_of (w : World) (S : ByteArray) (hl : S.size ≤ 1000000) (xs : List Nat) (hxl : xs.length ≤ 1000000000) (at_ c : Int) (hR : RdF 69 (S.extract (ahd S) S.size) 10 xs at_ c) (hat : 0 ≤ at_ ∧ at_ ≤ 1000000) (hc : c = 0 → at_ = 0) :
    Calls Tryz.prog 37 #[.string S] w fun e w' => Ext w w' ∧ ((c ≠ 0 ∧ e = .returned (.tuple #[.agg #[.bool false, .slice none 0 0], .int .i64 ((ahd S : Nat) + at_), .int .i64 50])) ∨ (c = 0 ∧ ∃ u, e = .returned (.tuple #[u, .int .i64 0, .int .i64 0]) ∧ Zn w' u (sg (decide (ahd S = 1)) (val xs)))) := by
  have hle := ahd_le S
  have hE0 := (Ext.refl w).alloc (.cells #[.bool false, .slice none 0 0] 24)
  have hI0 := Ib.new w false (.slice none 0 0) 24
  have hie := isEmpty_size S
  have hcase : (ahd S = 0 ∧ S.size = 0) ∨ (∃ k : 0 < S.size, ∃ x, (S[0]'k).toNat = x ∧ x ≠ 45 ∧ ahd S = 0) ∨ (∃ k : 0 < S.size, (S[0]'k).toNat = 45 ∧ ahd S = 1) := by
    unfold ahd
    by_cases k : 0 < S.size
    · rw [dif_pos k]
      by_cases k2 : (S[0]'k).toNat = 45
      · rw [if_pos k2]
        exact .inr (.inr ⟨k, k2, rfl⟩)
      · rw [if_neg k2]
        exact .inr (.inl ⟨k, _, rfl, k2, rfl⟩)
    · rw [dif_neg k]
      exact .inl ⟨rfl, by omega⟩
  have hT0 : S.extract 0 S.size = S := by
    apply ByteArray.ext
    simp
  obtain ⟨T, hT⟩ : ∃ T, S.extract (ahd S) S.size = T := ⟨_, rfl⟩
  have hRd := Lib.hid hR
  rw [hT] at hRd
  have hMk := Lib.hid (fun W b v g => rzmake W b v xs g hxl (val xs) rfl _ rfl)
  obtain ⟨hat0, hat1⟩ := hat
  rcases hcase with ⟨h, h0⟩ | ⟨k, x, hx, hx45, h⟩ | ⟨k, hx, h⟩
  case' inl =>
    rw [h, hT0] at hT
    subst hT
    have HA : Hid (ahd S = 0) := h
    have hz0 : ¬ (0 < S.size) := by omega
    clear h0
    have hM := Lib.hid (hMk.out · false)
  case' inr.inl =>
    rw [h, hT0] at hT
    subst hT
    have HA : Hid (ahd S = 0) := h
    have hz0 : (0 : Int) < (S.size : Int) := by omega
    have hx2 : ¬ ((x : Int) = 45) := by omega
    have hx3 : ((x : Int) == 45) = false := by rw [beq_eq_false_iff_ne]; exact hx2
    have hM := Lib.hid (hMk.out · false)
  case' inr.inr =>
    rw [h] at hT
    have HA : Hid (ahd S = 1) := h
    have hz0 : (0 : Int) < (S.size : Int) := by omega
    have hM := Lib.hid (hMk.out · true)
    have hk1 : 1 ≤ S.size := by omega
  all_goals (
    clear hR hle hie hMk h
    by_cases hc0 : c = 0
    · have ha0 := hc hc0
      subst hc0
      subst ha0
      clear hc hat0 hat1 hl
      go_enter Tryz.func37, Tryz.ntmps37
      go_wp2_with (first
        | (go_at_call 69; refine (hRd.out _).mono ?_; rintro e w2 ⟨u, rfl, hu2, hE2⟩; obtain ⟨A2, l2, c2, rfl⟩ := U.sl hu2)
        | (go_at_call 22; refine (hM.out _ _ hu2).mono ?_; rintro e w3 ⟨u, rfl, hz3, hE3⟩; obtain ⟨b3, A3, L3, c3, rfl⟩ := hz3.sh; have hI3 := (hI0.ext hE2).ext hE3; obtain ⟨i0, i1, i2, i3, i4⟩ := id hI3))
      (try simp only [Exit.inBlock, Exit.then])
      refine bodyPost_ret (v := .tuple #[.agg #[.bool b3, .slice A3 L3 c3], .int .i64 0, .int .i64 0]) (show (results _ _).run _ _ = _ from ?_) rfl ⟨((hE0.below hE2).below hE3).put2 (by omega) _ _, .inr ⟨by trivial, _, rfl, by rw [HA.out]; exact hz3.put2 hI3 (slice_no_int _ _ _) _ _⟩⟩
      simp only [results]
      go_simp
    · have hcn : (c != 0) = true := by rw [bne_iff_ne]; exact hc0
      have HC := Lib.hid hc0
      clear hc hc0 hM
      go_enter Tryz.func37, Tryz.ntmps37
      go_wp2_with (first
        | (go_at_call 69; refine (hRd.out _).mono ?_; rintro e w2 ⟨u, rfl, hu2, hE2⟩; obtain ⟨A2, l2, c2, rfl⟩ := U.sl hu2; obtain ⟨i0, i1, i2, i3, i4⟩ := hI0.ext hE2))
      (try simp only [Exit.inBlock, Exit.then])
      refine bodyPost_ret (v := .tuple #[.agg #[.bool false, .slice none 0 0], .int .i64 ((ahd S : Nat) + at_), .int .i64 50]) (show (results _ _).run _ _ = _ from ?_) rfl ⟨(hE0.below hE2).put2 (by omega) _ _, .inl ⟨HC.out, rfl⟩⟩
      rw [HA.out]
      simp only [results]
      go_simp)
end Go.Proofs.YtfkcdmbiihkiiaaGreatDoor
