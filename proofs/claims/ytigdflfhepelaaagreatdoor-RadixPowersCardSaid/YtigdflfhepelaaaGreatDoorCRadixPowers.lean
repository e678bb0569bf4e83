/- Proved: the statement RadixPowers: for any base and any number (below 300): the base to the power of it is 1 and that many noughts, and one less than it that many times the greatest digit; each has as many digits as that. No condition. -/
import Derived.Test.YtigdflfhepelaaaGreatDoorPk
import Derived.Laws.Concat

namespace Go.Proofs.YtigdflfhepelaaaGreatDoor
open Go.RowKit
set_option linter.unusedVariables false
set_option maxHeartbeats 400000

theorem rep_more (d i : Nat) : strD (List.replicate i d) ++ strD [d] = strD (List.replicate (i + 1) d) := by
  rw [strD_app, List.replicate_succ']
theorem one_byte (w : World) (d : Nat) (hd : d < 36) :
    (convert 49 9 (.slice (some ⟨w.heap.size, 0, none⟩) 1 1)).run Tryz.prog (w.alloc (.cells #[.int .u8 (digB d : Nat)] 5)) = .ok (.string (strD [d])) (w.alloc (.cells #[.int .u8 (digB d : Nat)] 5)) :=
  text_of _ w.heap.size 1 1 [d] (fun x hx => by simp at hx; omega) rfl (heap_alloc_new w _)

set_option maxRecDepth 100000 in
set_option maxHeartbeats 8000000 in
theorem RadixPowers_walk (w : World) (n : Nat) (hn : n < 256) (k : Nat) (hk : k < 65536) :
    Calls Tryz.prog 10 #[.int .u8 (n : Nat), .int .u16 (k : Nat)] w fun e w' => e = .returned (.bool true) ∧ Ext w w' := by
  obtain ⟨b, hb⟩ : ∃ b, 2 + n % 35 = b := ⟨_, rfl⟩
  have h2 : 2 ≤ b := by omega
  have h36 : b ≤ 36 := by omega
  have hOf := Lib.hid (fun W => rof_calls W n hn)
  rw [hb] at hOf
  obtain ⟨N, hN⟩ : ∃ N, k % 300 = N := ⟨_, rfl⟩
  have hN3 : N < 300 := by omega
  have o1 : (k : Int).tmod 300 = (N : Int) := by rw [Int.tmod_eq_emod_of_nonneg (Int.natCast_nonneg _)]; omega
  have o2 : (k : Int) % 300 = (N : Int) := by omega
  have o3 : IntKind.i64.wrap (k : Int) = (k : Int) := by rw [IntKind.wrap_i64]; omega
  obtain ⟨g, hg⟩ : ∃ g, b - 1 = g := ⟨_, rfl⟩
  have o4 : (b : Int) - 1 = (g : Int) := by omega
  have hg36 : g < 36 := by omega
  have hgb : g < b := by omega
  -- the two numbers
  obtain ⟨P, hP⟩ : ∃ P, b ^ N = P := ⟨_, rfl⟩
  obtain ⟨Z, hZ⟩ : ∃ Z, b ^ N - 1 = Z := ⟨_, rfl⟩
  have hP0 : 0 < b ^ N := Nat.pow_pos (by omega)
  have hlP : (limbs P).length ≤ 398 := by rw [← hP]; exact pow36 b N h36 (by omega)
  have hlZ : (limbs Z).length ≤ 398 := Nat.le_trans (len_mono (by omega)) hlP
  have hvP : bval b (1 :: List.replicate N 0) = P := by rw [bval_one_zeros]; exact hP
  have hvZ : bval b (0 :: List.replicate N g) = Z := by
    have := bval_nines b N h2
    rw [hg] at this
    rw [bval_cons, Nat.zero_mul]; omega
  have hRP := Lib.hid (fun W => read_ds W b (1 :: List.replicate N 0) P h2 h36 (by
    intro d hd
    rcases List.mem_cons.1 hd with h | h
    · omega
    · rw [List.eq_of_mem_replicate h]; omega) (by simp) (by simp; omega) hvP)
  have hRZ := Lib.hid (fun W => read_ds W b (0 :: List.replicate N g) Z h2 h36 (by
    intro d hd
    rcases List.mem_cons.1 hd with h | h
    · omega
    · rw [List.eq_of_mem_replicate h]; omega) (by simp) (by simp; omega) hvZ)
  have hdP : dt b P = 1 :: List.replicate N 0 := by rw [← hP]; exact dt_pow b N h2
  obtain ⟨C, hC⟩ : ∃ C, N + 1 = C := ⟨_, rfl⟩
  have o5 : (N : Int) + 1 = (C : Int) := by omega
  have hC3 : C ≤ 300 := by omega
  have hlnP : (dt b P).length = C := by rw [hdP]; simp; omega
  obtain ⟨G, hG⟩ : ∃ G, max N 1 = G := ⟨_, rfl⟩
  have o6 : max (N : Int) 1 = (G : Int) := by omega
  have hlnZ : (dt b Z).length = G := by
    by_cases h0 : N = 0
    · subst h0
      rw [Nat.pow_zero] at hZ
      obtain rfl : Z = 0 := by omega
      rw [dt_zero]; simp; omega
    · rw [← hZ, dt_nines b N h2 h0]; simp; omega
  have hCP := Lib.hid (fun W u h => count_calls W u P b h hlP h2 h36)
  have hCZ := Lib.hid (fun W u h => count_calls W u Z b h hlZ h2 h36)
  rw [hlnP] at hCP
  rw [hlnZ] at hCZ
  have hSt := Lib.hid (fun W u h => rstep_calls W u Z 1 1 h (by decide) (by decide) (by omega))
  rw [show Z * 1 + 1 = P by omega] at hSt
  have hWr := Lib.hid (fun W u h => writes_calls W u P b _ h hlP h2 h36 rfl)
  rw [hdP] at hWr
  obtain ⟨T1, hT1⟩ : ∃ T, strD (1 :: List.replicate N 0) = T := ⟨_, rfl⟩
  obtain ⟨T2, hT2⟩ : ∃ T, strD (0 :: List.replicate N g) = T := ⟨_, rfl⟩
  have hc1 : Hid ((⟨#[49]⟩ : ByteArray) ++ strD (List.replicate N 0) = T1) := by
    show _ = _
    rw [← hT1, show (⟨#[49]⟩ : ByteArray) = strD [1] from rfl, strD_app]; rfl
  have hc2 : Hid ((⟨#[48]⟩ : ByteArray) ++ strD (List.replicate N g) = T2) := by
    show _ = _
    rw [← hT2, show (⟨#[48]⟩ : ByteArray) = strD [0] from rfl, strD_app]; rfl
  rw [hT1] at hRP hWr
  rw [hT2] at hRZ
  have hBy := Lib.hid (fun W => rbyte_calls W g hg36)
  have hOb := Lib.hid (fun W => one_byte W g hg36)
  have hr0 := Lib.hid (fun i => rep_more 0 i)
  have hrg := Lib.hid (fun i => rep_more g i)
  have hs0 := Lib.hid (fun i d => strD_size (List.replicate i d))
  have hz0 : Hid ((⟨#[]⟩ : ByteArray) = strD (List.replicate 0 0)) := rfl
  have hzg : Hid ((⟨#[]⟩ : ByteArray) = strD (List.replicate 0 g)) := rfl
  have hs1 : Hid ((⟨#[48]⟩ : ByteArray) = strD [0]) := rfl
  obtain ⟨D, hD⟩ : ∃ D, digB g = D := ⟨_, rfl⟩
  obtain ⟨E, hE1⟩ : ∃ E, strD [g] = E := ⟨_, rfl⟩
  have hEs : E.size = 1 := by rw [← hE1, strD_size]; rfl
  rw [hD] at hBy hOb
  rw [hE1] at hOb hrg
  clear hb hn hN hk hg hP hZ hP0 hlP hlZ hvP hvZ hdP hlnP hlnZ hC hG hT1 hT2 hD hE1
  go_enter Tryz.func10, Tryz.ntmps10
  go_wp2_with (first
    | (go_at_call 12; refine (xhead_calls _).mono ?_; rintro e w1 ⟨rfl, hE1⟩)
    | (go_at_call 21; refine (hOf.out _).mono ?_; rintro e w3 ⟨rfl, hw3⟩; have hE3 := ext_eq hw3; clear hw3))
  have hE := hE1.below hE3
  clear hE1 hE3 hOf o1 o2 o3
  go_loopw [10, 8, 9] (fun t s r wr => ∃ (i : Nat) (X Y : ByteArray), i ≤ N ∧ t = .int .i64 (i : Nat) ∧ s = .string X ∧ r = .string Y ∧ Hid (X = strD (List.replicate i 0)) ∧ Hid (Y = strD (List.replicate i g)) ∧ Ext w wr) (fun t _ _ _ => N - (intOf t).toNat)
  case atStart => exact ⟨0, ⟨#[]⟩, ⟨#[]⟩, Nat.zero_le _, rfl, rfl, rfl, hz0, hzg, hE⟩
  case round =>
    clear hz0 hzg hE
    obtain ⟨i, X, Y, hi, rfl, rfl, rfl, HX, HY, hE⟩ := hrel
    have hxs : X.size = i := by rw [HX.out, hs0.out]; simp
    have hys : Y.size = i := by rw [HY.out, hs0.out]; simp
    by_cases hlt : i < N
    · have hi1 : (i : Int) < (N : Int) := by omega
      have hap := hr0.out i
      rw [← HX.out, ← hs1.out] at hap
      obtain ⟨X', hX'⟩ : ∃ Y, strD (List.replicate (i + 1) 0) = Y := ⟨_, rfl⟩
      rw [hX'] at hap
      have hap2 := hrg.out i
      rw [← HY.out] at hap2
      obtain ⟨Y', hY'⟩ : ∃ Y, strD (List.replicate (i + 1) g) = Y := ⟨_, rfl⟩
      rw [hY'] at hap2
      have HX2 : Hid (X' = strD (List.replicate (i + 1) 0)) := hX'.symm
      have HY2 : Hid (Y' = strD (List.replicate (i + 1) g)) := hY'.symm
      have hsz1 : ¬ (9223372036854775807 < i + 1) := by omega
      have hob := hOb.out wr
      have hE2 : Ext w (wr.alloc (.cells #[.int .u8 (D : Nat)] 5)) := hE.alloc _
      clear hX' hY' HX HY
      go_wp2_with (go_at_call 28; refine (hBy.out _).mono ?_; rintro e w4 ⟨rfl, rfl⟩)
      go_roundw
      case rel => first | exact ⟨i + 1, X', Y', by omega, by go_num, rfl, rfl, HX2, HY2, hE2⟩ | ((repeat apply Exists.intro); refine ⟨⟨i + 1, X', Y', by omega, ?_, rfl, rfl, HX2, HY2, hE2⟩, rfl⟩; go_num)
      case measure => simp [intOf]; omega
    · obtain rfl : i = N := by omega
      have e1 := hc1.out
      rw [← HX.out] at e1
      have e2 := hc2.out
      rw [← HY.out] at e2
      have hsz1 : ¬ (9223372036854775807 < 1 + i) := by omega
      clear HX HY hc1 hc2 hr0 hrg hs0
      go_upto_region 10 with (go_at_call 18; refine (hRP.out _).mono ?_; rintro e w5 ⟨v5, rfl, hv5, hE5⟩; obtain ⟨A5, l5, c5, rfl⟩ := U.sl hv5)
      go_upto_region 11 with (go_at_call 18; refine (hRZ.out _).mono ?_; rintro e w6 ⟨v6, rfl, hv6, hE6⟩; obtain ⟨A6, l6, c6, rfl⟩ := U.sl hv6; have hv5b := Un.below hv5 hE6)
      go_upto_region 12 with (go_at_call 16; refine (hCP.out _ _ hv5b).mono ?_; rintro e w7 ⟨rfl, hE7⟩; have hv5c := Un.below hv5b hE7; have hv6c := Un.below hv6 hE7)
      go_upto_region 13 with (go_at_call 16; refine (hCZ.out _ _ hv6c).mono ?_; rintro e w8 ⟨rfl, hE8⟩; have hv5d := Un.below hv5c hE8; have hv6d := Un.below hv6c hE8)
      go_wp2_with (first
        | (go_at_call 29; refine (hSt.out _ _ hv6d).mono ?_; rintro e w9 ⟨⟨v9, rfl, hv9⟩, hE9⟩; obtain ⟨A9, l9, c9, rfl⟩ := U.sl hv9; have hv5e := Un.below hv5d hE9)
        | (go_at_call 20; refine (rsame_B _ _ _ P P hv9 hv5e true (decide_eq_true rfl)).mono ?_; rintro e w10 ⟨rfl, hE10⟩; have hv5f := Un.below hv5e hE10)
        | (go_at_call 30; refine (hWr.out _ _ hv5f).mono ?_; rintro e w11 ⟨rfl, hE11⟩))
      go_ret
      exact ⟨by first | rfl | simp, ((((((hE.below hE5).below hE6).below hE7).below hE8).below hE9).below hE10).below hE11⟩
end Go.Proofs.YtigdflfhepelaaaGreatDoor
/- Proved: the statement RadixPowers: for any base and any number (below 300): the base to the power of it is 1 and that many noughts, and one less than it that many times the greatest digit; each has as many digits as that. No condition. -/
namespace Go.Proofs.YtigdflfhepelaaaGreatDoor
open Go.ChangeShapes Go.WideShapes Go.ChangeAt Go.RowKit
set_option linter.unusedVariables false
set_option maxHeartbeats 2000000

set_option maxRecDepth 100000 in
theorem lifted_RadixPowers (os : Os) (started : os.Started) (H : Type) (enc : TypeId × Value → H) :
    ReturnsInHanded {} Tryz.checked os 10 .any (fun w args => (Rows.radixPowersSpec.pre enc Tryz.prog Tryz.f10 [] false w args ∧ laidMetH Tryz.prog laidV w) ∧ sizedMet enc Tryz.prog Tryz.f10 (OpenSpec.ofChange Rows.radixPowersSpec) false w args)
      (Rows.radixPowersSpec.post enc Tryz.prog Tryz.f10 false true false false) := by
  refine returnsInHanded_of_change_and (C := Tryz.checked) (X := fun w _ => laidMetH Tryz.prog laidV w) (fun _ _ _ hh h => h.of_heap hh) own started (by kernel_rfl) Tryz.func10
    (ChangeSpec.witness_shaped (enc := enc) (C := Tryz.checked) (os := os) (X := fun w _ => laidMetH Tryz.prog laidV w) false (World.laidAll Tryz.prog os laidV) #[.int .u8 0, .int .u16 0] 8 (World.laidAll_os _ _ _) (World.shaped_of_ZipB (by kernel_rfl) (by kernel_rfl)) (by kernel_rfl) (by kernel_rfl) (by kernel_rfl) (laid_met os _)) ?_
  intro W base args ds gs before hval0 hW _ _ hL _
  have hval : ∀ (j : Nat) t v, Tryz.f10.params[j]? = some t → args[j]? = some v → Value.okWide Tryz.prog W .any base t v := hval0
  have hW' := hW
  obtain ⟨p, q, hA0, hV, rfl, hfz, hnd⟩ := hW
  have hlt : ∀ x ∈ p ++ q, x.block < W.heap.size := fun x hx => hW'.lt x hx
  have hA : DataW.TrodAll enc Tryz.prog W 0 (fun _ => true) true Tryz.f10.params.toList args.toList ds p := hA0
  rw [Tryz.params10] at hA hval
  clear hA0 hval0
  obtain ⟨v0, vs0, d0, ds0, p0, q0, hargs0, rfl, rfl, h0, r0⟩ := trodAll_cons hA
  obtain ⟨v1, vs1, d1, ds1, p1, q1, hargs1, rfl, rfl, h1, r1⟩ := trodAll_cons r0
  obtain ⟨hn1, rfl, rfl⟩ := trodAll_nil r1
  subst hn1
  subst hargs1
  obtain rfl : args = #[v0, v1] := by cases args; simp_all
  obtain ⟨rfl, rfl⟩ := trodVars_none hV
  obtain ⟨z0, rfl, rfl, rfl, hz0⟩ := open_int Tryz.underlying5 (hval 0 5 v0 rfl rfl) h0
  have hb0 := bounds_u8 hz0
  obtain ⟨n0, rfl⟩ := Int.eq_ofNat_of_zero_le (show 0 ≤ z0 by omega)
  obtain ⟨z1, rfl, rfl, rfl, hz1⟩ := open_int Tryz.underlying47 (hval 1 47 v1 rfl rfl) h1
  have hb1 := bounds_u16 hz1
  obtain ⟨n1, rfl⟩ := Int.eq_ofNat_of_zero_le (show 0 ≤ z1 by omega)
  refine (RadixPowers_walk W n0 (by omega) n1 (by omega)).mono fun e W' ⟨he, hB⟩ => ?_
  subst he
  exact ⟨_, rfl, law_post hW' rfl (by rw [Tryz.params10]; decide +kernel) rfl rfl rfl rfl hB⟩

theorem radixPowers_said : Rows.RadixPowersSaid :=
  OpenClaim.holds_of_wide 10 Tryz.f10 rfl rfl rfl rfl rfl rfl rfl ⟨rfl, rfl, rfl, rfl, rfl⟩ rfl rfl rfl rfl rfl (by kernel_rfl) Tryz.func10 (by kernel_rfl)
    (of_decide_eq_true (by kernel_rfl)) (by unfold Func.isWrapper; first | (rw [if_pos (by decide +kernel)]; kernel_rfl) | (rw [if_neg (by decide +kernel)]; exact ⟨rfl, rfl⟩))
    (fun os started H enc _ => lifted_RadixPowers os started H enc)
/-- The statement: the card, tied. -/
theorem radixPowers_holds : Rows.RadixPowersCardSaid :=
  Claim7.holds_tied_plain_at .later [] [.data, .wider, .pinned] true Rows.radixPowersCard.stood.harness false
    radixPowers_said (fun _ h => by cases h) (by kernel_rfl) (fun _ h => by cases h) radixPowers_row_tie rfl ⟨rfl, rfl⟩ (by kernel_rfl) rfl
    (fun f fn hf hfn => by
      obtain rfl : f = 10 := Option.some.inj ((show Tryz.prog.funcNamed "ziggurat/zigguratlaw05.RadixPowers" = some 10 by kernel_rfl).symm.trans hf) |>.symm
      obtain rfl : fn = Tryz.f10 := (Option.some.inj (Tryz.func10.symm.trans hfn)).symm
      exact ⟨by kernel_rfl, fun j t ht => by
        rw [Tryz.params10] at ht
        have hm : t ∈ [5, 47] := by simpa using Array.mem_of_getElem? ht
        have hall : ([5, 47].all fun u => !Tryz.prog.wantsStandIn u) = true := by kernel_rfl
        exact (show Tryz.prog.wantsStandIn t = false by simpa using List.all_eq_true.1 hall t hm)⟩)
    (by kernel_rfl)
end Go.Proofs.YtigdflfhepelaaaGreatDoor
