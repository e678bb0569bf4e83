/- Proved: the statement RadixJoin: for any two texts (of at most 400 digits each) and any base: one behind the other they are worth the one times the base as many times as the other one has digits, and the other one. No condition. -/
import Derived.Test.YtigdflfhepelaaaGreatDoorPk
import Derived.Laws.Concat

namespace Go.Proofs.YtigdflfhepelaaaGreatDoor
open Go.RowKit
set_option linter.unusedVariables false
set_option maxHeartbeats 400000

theorem join_step (a b i rs y s : Nat) (h : rs = a * b ^ i % 4294967291) (hy : rs * b = y) (hs : y % 4294967291 = s) : s = a * b ^ (i + 1) % 4294967291 := by
  rw [← hs, ← hy, h, Nat.pow_succ, ← Nat.mul_assoc]
  generalize a * b ^ i = X
  rw [Nat.mul_mod, Nat.mod_mod, ← Nat.mul_mod]
theorem join_end (a b L rs v y s : Nat) (h : rs = a * b ^ L % 4294967291) (hy : rs + v % 4294967291 = y) (hs : y % 4294967291 = s) : s = (a * b ^ L + v) % 4294967291 := by
  rw [← hs, ← hy, h]
  generalize a * b ^ L = X
  omega

set_option maxRecDepth 100000 in
set_option maxHeartbeats 8000000 in
theorem RadixJoin_walk (w : World) (S : ByteArray) (S2 : ByteArray) (n : Nat) (hn : n < 256) :
    Calls Tryz.prog 7 #[.string S, .string S2, .int .u8 (n : Nat)] w fun e w' => e = .returned (.bool true) ∧ Ext w w' := by
  obtain ⟨b, hb⟩ : ∃ b, 2 + n % 35 = b := ⟨_, rfl⟩
  have h2 : 2 ≤ b := by omega
  have h36 : b ≤ 36 := by omega
  have hOf := Lib.hid (fun W => rof_calls W n hn)
  rw [hb] at hOf
  have hDg := Lib.hid (fun W => rdigits_calls W S b 400 h2 h36 (by decide))
  have hdl := dgs_len S b 400 (by decide)
  have hdb := dgs_lt S b 400 (by omega)
  have hDg2 := Lib.hid (fun W => rdigits_calls W S2 b 400 h2 h36 (by decide))
  have hdl2 := dgs_len S2 b 400 (by decide)
  have hdb2 := dgs_lt S2 b 400 (by omega)
  generalize dgs S b 400 = ds at *
  generalize dgs S2 b 400 = es at *
  obtain ⟨a, ha⟩ : ∃ a, bval b ds = a := ⟨_, rfl⟩
  obtain ⟨v, hv⟩ : ∃ v, bval b es = v := ⟨_, rfl⟩
  obtain ⟨L, hL⟩ : ∃ L, es.length = L := ⟨_, rfl⟩
  obtain ⟨u, hu⟩ : ∃ u, bval b (ds ++ es) = u := ⟨_, rfl⟩
  have huv : u = a * b ^ L + v := by rw [← hu, bval_append, ha, hv, hL]
  have hRd := Lib.hid (fun W => read_ds W b ds a h2 h36 hdb hdl.1 (by omega) ha)
  have hRd2 := Lib.hid (fun W => read_ds W b es v h2 h36 hdb2 hdl2.1 (by omega) hv)
  have hRd3 := Lib.hid (fun W => read_ds W b (ds ++ es) u h2 h36 (fun d h => by
    rcases List.mem_append.1 h with h | h
    · exact hdb d h
    · exact hdb2 d h) (by rw [List.length_append]; omega) (by rw [List.length_append]; omega) hu)
  have hap := strD_app ds es
  have hs1 := strD_size ds
  have hs2 := strD_size es
  generalize hT3 : strD (ds ++ es) = T3 at *
  generalize strD ds = T1 at *
  generalize strD es = T2 at *
  have hsz : ¬ (9223372036854775807 < T1.size + L) := by omega
  rw [hL] at hs2
  have HS1 := Lib.hid hs1
  have hMa := Lib.hid (fun W x (h : Un W x a) => rmod_calls W x a h)
  have hMv := Lib.hid (fun W x (h : Un W x v) => rmod_calls W x v h)
  have hMu := Lib.hid (fun W x (h : Un W x u) => rmod_calls W x u h)
  have hL4 : L ≤ 400 := by omega
  obtain ⟨vm, hvm⟩ : ∃ vm, v % 4294967291 = vm := ⟨_, rfl⟩
  obtain ⟨am, ham⟩ : ∃ am, a % 4294967291 = am := ⟨_, rfl⟩
  obtain ⟨um, hum⟩ : ∃ um, u % 4294967291 = um := ⟨_, rfl⟩
  have hvb : vm < 4294967291 := by omega
  have hab : am < 4294967291 := by omega
  rw [hvm] at hMv
  rw [ham] at hMa
  rw [hum] at hMu
  have HU : Hid (um = (a * b ^ L + v) % 4294967291) := by show _ = _; rw [← hum, huv]
  have HS0 : Hid (am = a * b ^ 0 % 4294967291) := by show _ = _; rw [Nat.pow_zero, Nat.mul_one]; exact ham.symm
  have HV := Lib.hid hvm
  have o3 := u64_mod (show b < 18446744073709551616 by omega)
  have o4 := u64_fit (show b < 18446744073709551616 by omega)
  clear hb hn hdl hdb hdl2 hdb2 ha hv hu huv hs1 hvm ham hum hT3 hL
  go_enter Tryz.func7, Tryz.ntmps7
  go_upto_region 3 with (first
    | (go_at_call 12; refine (xhead_calls _).mono ?_; rintro e w1 ⟨rfl, hE1⟩)
    | (go_at_call 21; refine (hOf.out _).mono ?_; rintro e w3 ⟨rfl, hw3⟩; have hE3 := ext_eq hw3; clear hw3))
  go_wp2_with (fail)
  refine (hDg.out _).mono ?_
  rintro e w4 ⟨rfl, hE4⟩
  go_wp2_with (fail)
  refine (hDg2.out _).mono ?_
  rintro e w5 ⟨rfl, hE5⟩
  go_wp2_with (fail)
  refine (hRd.out _).mono ?_
  rintro e w6 ⟨v6, rfl, hv6, hE6⟩
  obtain ⟨A6, l6, c6, rfl⟩ := U.sl hv6
  go_wp2_with (fail)
  refine (hRd2.out _).mono ?_
  rintro e w7 ⟨v7, rfl, hv7, hE7⟩
  obtain ⟨A7, l7, c7, rfl⟩ := U.sl hv7
  go_wp2_with (fail)
  refine (hRd3.out _).mono ?_
  rintro e w8 ⟨v8, rfl, hv8, hE8⟩
  obtain ⟨A8, l8, c8, rfl⟩ := U.sl hv8
  replace hv6 := (hv6.below hE7).below hE8
  replace hv7 := hv7.below hE8
  have hE := ((((((hE1.below hE3).below hE4).below hE5).below hE6).below hE7).below hE8)
  clear hE1 hE3 hE4 hE5 hE6 hE7 hE8 hOf hDg hDg2 hRd hRd2 hRd3
  go_wp2_with (fail)
  refine (hMa.out _ _ hv6).mono ?_
  rintro e w9 ⟨rfl, rfl⟩
  go_wp2
  go_loopw [19, 18] (fun t s wr => ∃ (i rs : Nat), i ≤ L ∧ t = .int .i64 (i : Nat) ∧ s = .int .u64 (rs : Nat) ∧ rs < 4294967291 ∧ Hid (rs = a * b ^ i % 4294967291) ∧ wr = w9) (fun t _ _ => L - (intOf t).toNat)
  case atStart => exact ⟨0, am, Nat.zero_le _, rfl, rfl, hab, HS0, rfl⟩
  case round =>
    clear HS0
    obtain ⟨i, rs, hi, rfl, rfl, hrb, HO, rfl⟩ := hrel
    by_cases hlt : i < L
    · have hi1 : (i : Int) < (L : Int) := by omega
      obtain ⟨y, hy⟩ : ∃ y, rs * b = y := ⟨_, rfl⟩
      have hyb : y ≤ 4294967296 * 36 := by rw [← hy]; exact Nat.mul_le_mul (by omega) h36
      obtain ⟨s, hs⟩ : ∃ s, y % 4294967291 = s := ⟨_, rfl⟩
      have HST := Lib.hid (join_step a b i rs y s HO.out hy hs)
      have o1 : (rs : Int) * (b : Int) = (y : Int) := by rw [← hy]; exact (Int.natCast_mul rs b).symm
      have o2 := u64_fit (show y < 18446744073709551616 by omega)
      have o5 := u64_mod (show y < 18446744073709551616 by omega)
      have o9 : (y : Int).tmod 4294967291 = (s : Int) := by rw [Int.tmod_eq_emod_of_nonneg (Int.natCast_nonneg _), ← hs, Int.natCast_emod]; rfl
      have o11 : (y : Int) % 4294967291 = (s : Int) := by rw [← hs, Int.natCast_emod]; rfl
      have hsb : s < 4294967291 := by omega
      have o10 := u64_fit (show s < 18446744073709551616 by omega)
      clear hy hyb hs HO hrb
      go_wp2
      go_roundw
      case rel => first | exact ⟨i + 1, s, by omega, by go_num, rfl, hsb, HST, by trivial⟩ | ((repeat apply Exists.intro); refine ⟨⟨i + 1, s, by omega, ?_, rfl, hsb, HST, by trivial⟩, rfl⟩; go_num)
      case measure => simp [intOf]; omega
    · obtain rfl : i = L := by omega
      obtain ⟨y, hy⟩ : ∃ y, rs + vm = y := ⟨_, rfl⟩
      obtain ⟨s, hs⟩ : ∃ s, y % 4294967291 = s := ⟨_, rfl⟩
      have hsu : s = um := by rw [HU.out]; exact join_end a b i rs v y s HO.out (by rw [HV.out]; exact hy) hs
      subst hsu
      have o5 : (rs : Int) + (vm : Int) = (y : Int) := by omega
      have o6 := u64_fit (show y < 18446744073709551616 by omega)
      have o7 := u64_mod (show y < 18446744073709551616 by omega)
      have o9 : (y : Int).tmod 4294967291 = (s : Int) := by rw [Int.tmod_eq_emod_of_nonneg (Int.natCast_nonneg _), ← hs, Int.natCast_emod]; rfl
      have o11 : (y : Int) % 4294967291 = (s : Int) := by rw [← hs, Int.natCast_emod]; rfl
      have o10 := u64_fit (show s < 18446744073709551616 by omega)
      clear hy hs HO HU HV hrb hvb hab
      go_wp2_with (fail)
      refine (hMu.out _ _ hv8).mono ?_
      rintro e w10 ⟨rfl, rfl⟩
      go_wp2_with (fail)
      refine (hMv.out _ _ hv7).mono ?_
      rintro e w11 ⟨rfl, rfl⟩
      go_wp2
      go_ret
      exact ⟨by first | rfl | simp, hE⟩
end Go.Proofs.YtigdflfhepelaaaGreatDoor
/- Proved: the statement RadixJoin: for any two texts (of at most 400 digits each) and any base: one behind the other they are worth the one times the base as many times as the other one has digits, and the other one. No condition. -/
namespace Go.Proofs.YtigdflfhepelaaaGreatDoor
open Go.ChangeShapes Go.WideShapes Go.ChangeAt Go.RowKit
set_option linter.unusedVariables false
set_option maxHeartbeats 2000000

set_option maxRecDepth 100000 in
theorem lifted_RadixJoin (os : Os) (started : os.Started) (H : Type) (enc : TypeId × Value → H) :
    ReturnsInHanded {} Tryz.checked os 7 .any (fun w args => (Rows.radixJoinSpec.pre enc Tryz.prog Tryz.f7 [] false w args ∧ laidMetH Tryz.prog laidV w) ∧ sizedMet enc Tryz.prog Tryz.f7 (OpenSpec.ofChange Rows.radixJoinSpec) false w args)
      (Rows.radixJoinSpec.post enc Tryz.prog Tryz.f7 false true false false) := by
  refine returnsInHanded_of_change_and (C := Tryz.checked) (X := fun w _ => laidMetH Tryz.prog laidV w) (fun _ _ _ hh h => h.of_heap hh) own started (by kernel_rfl) Tryz.func7
    (ChangeSpec.witness_shaped (enc := enc) (C := Tryz.checked) (os := os) (X := fun w _ => laidMetH Tryz.prog laidV w) false (World.laidAll Tryz.prog os laidV) #[.string ⟨#[]⟩, .string ⟨#[]⟩, .int .u8 0] 8 (World.laidAll_os _ _ _) (World.shaped_of_ZipB (by kernel_rfl) (by kernel_rfl)) (by kernel_rfl) (by kernel_rfl) (by kernel_rfl) (laid_met os _)) ?_
  intro W base args ds gs before hval0 hW _ _ hL _
  have hval : ∀ (j : Nat) t v, Tryz.f7.params[j]? = some t → args[j]? = some v → Value.okWide Tryz.prog W .any base t v := hval0
  have hW' := hW
  obtain ⟨p, q, hA0, hV, rfl, hfz, hnd⟩ := hW
  have hlt : ∀ x ∈ p ++ q, x.block < W.heap.size := fun x hx => hW'.lt x hx
  have hA : DataW.TrodAll enc Tryz.prog W 0 (fun _ => true) true Tryz.f7.params.toList args.toList ds p := hA0
  rw [Tryz.params7] at hA hval
  clear hA0 hval0
  obtain ⟨v0, vs0, d0, ds0, p0, q0, hargs0, rfl, rfl, h0, r0⟩ := trodAll_cons hA
  obtain ⟨v1, vs1, d1, ds1, p1, q1, hargs1, rfl, rfl, h1, r1⟩ := trodAll_cons r0
  obtain ⟨v2, vs2, d2, ds2, p2, q2, hargs2, rfl, rfl, h2, r2⟩ := trodAll_cons r1
  obtain ⟨hn1, rfl, rfl⟩ := trodAll_nil r2
  subst hn1
  subst hargs2
  subst hargs1
  obtain rfl : args = #[v0, v1, v2] := by cases args; simp_all
  obtain ⟨rfl, rfl⟩ := trodVars_none hV
  obtain ⟨s0, rfl⟩ := okWide_string Tryz.underlying9 (hval 0 9 v0 rfl rfl)
  obtain ⟨s1, rfl⟩ := okWide_string Tryz.underlying9 (hval 1 9 v1 rfl rfl)
  obtain ⟨z2, rfl, rfl, rfl, hz2⟩ := open_int Tryz.underlying5 (hval 2 5 v2 rfl rfl) h2
  have hb2 := bounds_u8 hz2
  obtain ⟨n2, rfl⟩ := Int.eq_ofNat_of_zero_le (show 0 ≤ z2 by omega)
  refine (RadixJoin_walk W s0 s1 n2 (by omega)).mono fun e W' ⟨he, hB⟩ => ?_
  subst he
  exact ⟨_, rfl, law_post hW' rfl (by rw [Tryz.params7]; decide +kernel) rfl rfl rfl rfl hB⟩

theorem radixJoin_said : Rows.RadixJoinSaid :=
  OpenClaim.holds_of_wide 7 Tryz.f7 rfl rfl rfl rfl rfl rfl rfl ⟨rfl, rfl, rfl, rfl, rfl⟩ rfl rfl rfl rfl rfl (by kernel_rfl) Tryz.func7 (by kernel_rfl)
    (of_decide_eq_true (by kernel_rfl)) (by unfold Func.isWrapper; first | (rw [if_pos (by decide +kernel)]; kernel_rfl) | (rw [if_neg (by decide +kernel)]; exact ⟨rfl, rfl⟩))
    (fun os started H enc _ => lifted_RadixJoin os started H enc)
/-- The statement: the card, tied. -/
theorem radixJoin_holds : Rows.RadixJoinCardSaid :=
  Claim7.holds_tied_plain_at .later [] [.data, .wider, .pinned] true Rows.radixJoinCard.stood.harness false
    radixJoin_said (fun _ h => by cases h) (by kernel_rfl) (fun _ h => by cases h) radixJoin_row_tie rfl ⟨rfl, rfl⟩ (by kernel_rfl) rfl
    (fun f fn hf hfn => by
      obtain rfl : f = 7 := Option.some.inj ((show Tryz.prog.funcNamed "ziggurat/zigguratlaw05.RadixJoin" = some 7 by kernel_rfl).symm.trans hf) |>.symm
      obtain rfl : fn = Tryz.f7 := (Option.some.inj (Tryz.func7.symm.trans hfn)).symm
      exact ⟨by kernel_rfl, fun j t ht => by
        rw [Tryz.params7] at ht
        have hm : t ∈ [9, 9, 5] := by simpa using Array.mem_of_getElem? ht
        have hall : ([9, 9, 5].all fun u => !Tryz.prog.wantsStandIn u) = true := by kernel_rfl
        exact (show Tryz.prog.wantsStandIn t = false by simpa using List.all_eq_true.1 hall t hm)⟩)
    (by kernel_rfl)
end Go.Proofs.YtigdflfhepelaaaGreatDoor
