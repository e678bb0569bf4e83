/- Proved: the statement RadixBad: for any text (of at most 200 bytes) and any base: a text with a byte that is no digit of the base is none, and the place of the first such one is told. No condition. -/
import Derived.Test.YtigdflfhepelaaaGreatDoorPk

namespace Go.Proofs.YtigdflfhepelaaaGreatDoor
open Go.RowKit
set_option linter.unusedVariables false
set_option maxHeartbeats 400000

theorem U.nil_shape {w : World} {v : Value} (h : U w v []) : ∃ A c, v = .slice A 0 c := by
  obtain ⟨A, c, e, _⟩ := h
  exact ⟨A, c, e⟩

set_option maxRecDepth 100000 in
set_option maxHeartbeats 8000000 in
theorem RadixBad_walk (w : World) (S : ByteArray) (n : Nat) (hn : n < 256) :
    Calls Tryz.prog 11 #[.string S, .int .u8 (n : Nat)] w fun e w' => e = .returned (.bool true) ∧ Ext w w' := by
  obtain ⟨b, hb⟩ : ∃ b, 2 + n % 35 = b := ⟨_, rfl⟩
  have h2 : 2 ≤ b := by omega
  have h36 : b ≤ 36 := by omega
  have hOf := Lib.hid (fun W => rof_calls W n hn)
  rw [hb] at hOf
  obtain ⟨k, hk⟩ : ∃ k, min S.size 200 = k := ⟨_, rfl⟩
  obtain ⟨-, d2, d3, d4⟩ := cut_facts S 200 k hk
  have d1 : min (S.size : Int) 200 = (k : Int) := by omega
  obtain ⟨T, hT⟩ : ∃ T, S.extract 0 k = T := ⟨_, rfl⟩
  rw [hT] at d4
  have hie := isEmpty_size T
  have hat := Lib.hid (worL_at T)
  have d5 : (k : Int) ≤ (S.size : Int) := by omega
  have d6 : (0 : Int) ≤ (k : Int) := by omega
  have hl : T.size ≤ 2000 := by omega
  rcases rd_cases T b with h0 | ⟨h0, hd⟩ | ⟨i, hi, h1, hbi⟩
  · have HR := Lib.hid (tell_empty T b h2 h36 h0).1
    rw [h0] at hie
    have hie2 : T.toList.isEmpty = true := by rw [hie]; rfl
    have q1 : ¬ ((k : Int) < 0) := by omega
    have q2 : ((0 : Int) == (k : Int)) = true := by rw [beq_iff_eq]; omega
    clear hb hn hk hie hl h2 h36 h0
    go_enter Tryz.func11, Tryz.ntmps11
    go_wp2_with (first
      | (go_at_call 12; refine (xhead_calls _).mono ?_; rintro e w1 ⟨rfl, hE1⟩)
      | (go_at_call 21; refine (hOf.out _).mono ?_; rintro e w3 ⟨rfl, hw3⟩; have hE3 := ext_eq hw3; clear hw3)
      | (go_at_call 18; refine (HR.out _).mono ?_; rintro e w4 ⟨v4, rfl, hv4, hE4⟩; obtain ⟨A4, c4, rfl⟩ := U.nil_shape hv4))
    go_loopw [11] (fun t wr => t = .int .i64 0 ∧ wr = w4) (fun t _ => 0)
    case atStart => exact ⟨rfl, rfl⟩
    case round =>
      obtain ⟨rfl, rfl⟩ := hrel
      go_wp2
      go_ret
      exact ⟨by first | rfl | simp, (hE1.below hE3).below hE4⟩
  · have HR := Lib.hid (tell_good T b h2 h36 hl h0 hd).1
    have hie2 : T.toList.isEmpty = false := by rw [hie]; exact decide_eq_false h0
    have HD := Lib.hid (fun i (hi : i < T.size) => hd _ (lb_mem (worL T) i (by rw [worL_len]; exact hi)))
    have hk1 : Hid (T.size = k) := d4
    clear hb hn hk hie hl h0 hd
    go_enter Tryz.func11, Tryz.ntmps11
    go_wp2_with (first
      | (go_at_call 12; refine (xhead_calls _).mono ?_; rintro e w1 ⟨rfl, hE1⟩)
      | (go_at_call 21; refine (hOf.out _).mono ?_; rintro e w3 ⟨rfl, hw3⟩; have hE3 := ext_eq hw3; clear hw3)
      | (go_at_call 18; refine (HR.out _).mono ?_; rintro e w4 ⟨v4, rfl, hv4, hE4⟩; obtain ⟨A4, l4, c4, rfl⟩ := U.sl hv4))
    have hE := (hE1.below hE3).below hE4
    clear hv4 hE1 hE3 hE4 HR hOf hT
    go_loopw [10] (fun t wr => ∃ j : Nat, j ≤ k ∧ t = .int .i64 (j : Nat) ∧ wr = w4) (fun t _ => k - (intOf t).toNat)
    case atStart => exact ⟨0, Nat.zero_le _, rfl, rfl⟩
    case round =>
      obtain ⟨j, hj, rfl, rfl⟩ := hrel
      by_cases hlt : j < k
      · have hj1 : (j : Int) < (k : Int) := by omega
        have hj2 : j < T.size := by rw [hk1.out]; exact hlt
        have e1 := hat.out j hj2
        have e2 := HD.out j hj2
        obtain ⟨c, hc⟩ : ∃ c, (T[j]'hj2).toNat = c := ⟨_, rfl⟩
        have hc256 : c < 256 := by rw [← hc]; exact UInt8.toNat_lt _
        rw [hc] at e1
        rw [e1] at e2
        obtain ⟨v, hv⟩ : ∃ v, worB c = v := ⟨_, rfl⟩
        rw [hv] at e2
        have e3 : ¬ ((b : Int) ≤ (v : Int)) := by omega
        clear e1
        go_wp2_with (go_at_call 24; refine (rdigit_calls _ c hc256).mono ?_; rintro e w5 ⟨rfl, rfl⟩; rw [hv])
        go_roundw
        case rel => first | exact ⟨j + 1, by omega, by go_num, by trivial⟩ | ((repeat apply Exists.intro); refine ⟨⟨j + 1, by omega, ?_, by trivial⟩, rfl⟩; go_num)
        case measure => simp [intOf]; omega
      · have hj1 : ¬ ((j : Int) < (k : Int)) := by omega
        go_wp2
        go_ret
        exact ⟨by first | rfl | simp, hE⟩
  · have HR := Lib.hid (tell_wrong T b i h2 h36 hl hi h1 hbi).1
    have hie2 : T.toList.isEmpty = false := by rw [hie]; exact decide_eq_false (by omega)
    have H1 := Lib.hid h1
    have hk1 : Hid (T.size = k) := d4
    have e1 := hat.out i hi
    rw [e1] at hbi
    obtain ⟨c, hc⟩ : ∃ c, (T[i]'hi).toNat = c := ⟨_, rfl⟩
    have hc256 : c < 256 := by rw [← hc]; exact UInt8.toNat_lt _
    rw [hc] at hbi
    obtain ⟨v, hv⟩ : ∃ v, worB c = v := ⟨_, rfl⟩
    rw [hv] at hbi
    have q0 : decide ((i : Int) < 0) = false := decide_eq_false (by omega)
    have q1 : ¬ (k < i) := by omega
    have q2 : ((i : Int) == (k : Int)) = false := by rw [beq_eq_false_iff_ne]; omega
    have q3 : (b : Int) ≤ (v : Int) := by omega
    have q4 : (i : Int) < (k : Int) := by omega
    have q5 : (0 : Int) ≤ (i : Int) := by omega
    clear hb hn hk hie hl h1 e1 hbi
    go_enter Tryz.func11, Tryz.ntmps11
    go_wp2_with (first
      | (go_at_call 12; refine (xhead_calls _).mono ?_; rintro e w1 ⟨rfl, hE1⟩)
      | (go_at_call 21; refine (hOf.out _).mono ?_; rintro e w3 ⟨rfl, hw3⟩; have hE3 := ext_eq hw3; clear hw3)
      | (go_at_call 18; refine (HR.out _).mono ?_; rintro e w4 ⟨v4, rfl, hv4, hE4⟩; obtain ⟨A4, c4, rfl⟩ := U.nil_shape hv4))
    have hE := (hE1.below hE3).below hE4
    clear hv4 hE1 hE3 hE4 HR hOf hT
    go_loopw [11] (fun t wr => ∃ j : Nat, j ≤ i ∧ t = .int .i64 (j : Nat) ∧ wr = w4) (fun t _ => i - (intOf t).toNat)
    case atStart => exact ⟨0, Nat.zero_le _, rfl, rfl⟩
    case round =>
      obtain ⟨j, hj, rfl, rfl⟩ := hrel
      by_cases hlt : j < i
      · have hj1 : (j : Int) < (i : Int) := by omega
        have hj2 : j < T.size := by omega
        have e1 := hat.out j hj2
        have e2 := H1.out j hlt
        obtain ⟨c', hc'⟩ : ∃ c, (T[j]'hj2).toNat = c := ⟨_, rfl⟩
        have hc256' : c' < 256 := by rw [← hc']; exact UInt8.toNat_lt _
        rw [hc'] at e1
        rw [e1] at e2
        obtain ⟨v', hv'⟩ : ∃ v, worB c' = v := ⟨_, rfl⟩
        rw [hv'] at e2
        have e3 : ¬ ((b : Int) ≤ (v' : Int)) := by omega
        clear e1 hc hc256 hv q3
        go_wp2_with (go_at_call 24; refine (rdigit_calls _ c' hc256').mono ?_; rintro e w5 ⟨rfl, rfl⟩; rw [hv'])
        go_roundw
        case rel => first | exact ⟨j + 1, by omega, by go_num, by trivial⟩ | ((repeat apply Exists.intro); refine ⟨⟨j + 1, by omega, ?_, by trivial⟩, rfl⟩; go_num)
        case measure => simp [intOf]; omega
      · obtain rfl : j = i := by omega
        go_wp2_with (go_at_call 24; refine (rdigit_calls _ c hc256).mono ?_; rintro e w5 ⟨rfl, rfl⟩; rw [hv])
        go_ret
        exact ⟨by first | rfl | simp, hE⟩
end Go.Proofs.YtigdflfhepelaaaGreatDoor
/- Proved: the statement RadixBad: for any text (of at most 200 bytes) and any base: a text with a byte that is no digit of the base is none, and the place of the first such one is told. No condition. -/
namespace Go.Proofs.YtigdflfhepelaaaGreatDoor
open Go.ChangeShapes Go.WideShapes Go.ChangeAt Go.RowKit
set_option linter.unusedVariables false
set_option maxHeartbeats 2000000

set_option maxRecDepth 100000 in
theorem lifted_RadixBad (os : Os) (started : os.Started) (H : Type) (enc : TypeId × Value → H) :
    ReturnsInHanded {} Tryz.checked os 11 .any (fun w args => (Rows.radixBadSpec.pre enc Tryz.prog Tryz.f11 [] false w args ∧ laidMetH Tryz.prog laidV w) ∧ sizedMet enc Tryz.prog Tryz.f11 (OpenSpec.ofChange Rows.radixBadSpec) false w args)
      (Rows.radixBadSpec.post enc Tryz.prog Tryz.f11 false true false false) := by
  refine returnsInHanded_of_change_and (C := Tryz.checked) (X := fun w _ => laidMetH Tryz.prog laidV w) (fun _ _ _ hh h => h.of_heap hh) own started (by kernel_rfl) Tryz.func11
    (ChangeSpec.witness_shaped (enc := enc) (C := Tryz.checked) (os := os) (X := fun w _ => laidMetH Tryz.prog laidV w) false (World.laidAll Tryz.prog os laidV) #[.string ⟨#[]⟩, .int .u8 0] 8 (World.laidAll_os _ _ _) (World.shaped_of_ZipB (by kernel_rfl) (by kernel_rfl)) (by kernel_rfl) (by kernel_rfl) (by kernel_rfl) (laid_met os _)) ?_
  intro W base args ds gs before hval0 hW _ _ hL _
  have hval : ∀ (j : Nat) t v, Tryz.f11.params[j]? = some t → args[j]? = some v → Value.okWide Tryz.prog W .any base t v := hval0
  have hW' := hW
  obtain ⟨p, q, hA0, hV, rfl, hfz, hnd⟩ := hW
  have hlt : ∀ x ∈ p ++ q, x.block < W.heap.size := fun x hx => hW'.lt x hx
  have hA : DataW.TrodAll enc Tryz.prog W 0 (fun _ => true) true Tryz.f11.params.toList args.toList ds p := hA0
  rw [Tryz.params11] at hA hval
  clear hA0 hval0
  obtain ⟨v0, vs0, d0, ds0, p0, q0, hargs0, rfl, rfl, h0, r0⟩ := trodAll_cons hA
  obtain ⟨v1, vs1, d1, ds1, p1, q1, hargs1, rfl, rfl, h1, r1⟩ := trodAll_cons r0
  obtain ⟨hn1, rfl, rfl⟩ := trodAll_nil r1
  subst hn1
  subst hargs1
  obtain rfl : args = #[v0, v1] := by cases args; simp_all
  obtain ⟨rfl, rfl⟩ := trodVars_none hV
  obtain ⟨s0, rfl⟩ := okWide_string Tryz.underlying9 (hval 0 9 v0 rfl rfl)
  obtain ⟨z1, rfl, rfl, rfl, hz1⟩ := open_int Tryz.underlying5 (hval 1 5 v1 rfl rfl) h1
  have hb1 := bounds_u8 hz1
  obtain ⟨n1, rfl⟩ := Int.eq_ofNat_of_zero_le (show 0 ≤ z1 by omega)
  refine (RadixBad_walk W s0 n1 (by omega)).mono fun e W' ⟨he, hB⟩ => ?_
  subst he
  exact ⟨_, rfl, law_post hW' rfl (by rw [Tryz.params11]; decide +kernel) rfl rfl rfl rfl hB⟩

theorem radixBad_said : Rows.RadixBadSaid :=
  OpenClaim.holds_of_wide 11 Tryz.f11 rfl rfl rfl rfl rfl rfl rfl ⟨rfl, rfl, rfl, rfl, rfl⟩ rfl rfl rfl rfl rfl (by kernel_rfl) Tryz.func11 (by kernel_rfl)
    (of_decide_eq_true (by kernel_rfl)) (by unfold Func.isWrapper; first | (rw [if_pos (by decide +kernel)]; kernel_rfl) | (rw [if_neg (by decide +kernel)]; exact ⟨rfl, rfl⟩))
    (fun os started H enc _ => lifted_RadixBad os started H enc)
/-- The statement: the card, tied. -/
theorem radixBad_holds : Rows.RadixBadCardSaid :=
  Claim7.holds_tied_plain_at .later [] [.data, .wider, .pinned] true Rows.radixBadCard.stood.harness false
    radixBad_said (fun _ h => by cases h) (by kernel_rfl) (fun _ h => by cases h) radixBad_row_tie rfl ⟨rfl, rfl⟩ (by kernel_rfl) rfl
    (fun f fn hf hfn => by
      obtain rfl : f = 11 := Option.some.inj ((show Tryz.prog.funcNamed "ziggurat/zigguratlaw05.RadixBad" = some 11 by kernel_rfl).symm.trans hf) |>.symm
      obtain rfl : fn = Tryz.f11 := (Option.some.inj (Tryz.func11.symm.trans hfn)).symm
      exact ⟨by kernel_rfl, fun j t ht => by
        rw [Tryz.params11] at ht
        have hm : t ∈ [9, 5] := by simpa using Array.mem_of_getElem? ht
        have hall : ([9, 5].all fun u => !Tryz.prog.wantsStandIn u) = true := by kernel_rfl
        exact (show Tryz.prog.wantsStandIn t = false by simpa using List.all_eq_true.1 hall t hm)⟩)
    (by kernel_rfl)
end Go.Proofs.YtigdflfhepelaaaGreatDoor
