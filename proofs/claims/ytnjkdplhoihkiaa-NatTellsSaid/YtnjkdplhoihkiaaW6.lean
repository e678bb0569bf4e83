/- walks -/
import Derived.Test.YtnjkdplhoihkiaaW5
namespace Go.Proofs.Ytnjkdplhoihkiaa
open Go.RowKit
set_option linter.unusedVariables false
set_option maxHeartbeats 400000

theorem low_calls (w : World) (v : Value) (n : Nat) (h : Un w v n) :
    Calls Try.prog 20 #[v] w fun e w' => e = .returned (.tuple #[.int .u64 (lowN n : Nat), .bool (lowB n)]) ∧ w = w' := by
  obtain ⟨A, c, rfl, ⟨hc, hm⟩, hx, hr⟩ := h
  by_cases h2 : (limbs n).length ≤ 2
  · have hB : lowB n = true := lowB_of_le h2
    have hN : lowN n = n := lowN_of_le h2
    have HB := Lib.hid hB
    have HN := Lib.hid hN
    clear hB hN
    go_enter Try.func20, Try.ntmps20
    go_wp2
    go_loop [4, 12] (fun s i => ∃ k : Nat, k ≤ (limbs n).length ∧ i = .int .i64 k ∧ s = .int .u64 (val ((limbs n).take k) : Nat)) (fun s i => (limbs n).length - (intOf i).toNat)
    case atStart => exact ⟨0, Nat.zero_le _, rfl, rfl⟩
    case round =>
      obtain ⟨k, hk, rfl, rfl⟩ := hrel
      by_cases hlt : k < (limbs n).length
      · obtain ⟨ad, rfl, hb, hcell⟩ := hr (by omega)
        have hc1 := hcell k hlt
        go_wp2
        go_round
        case rel => exact ⟨k + 1, by omega, by go_num, by rw [low_step _ k hx hlt h2]⟩
        case measure => simp [intOf]; omega
      · have HV : Hid (lowN n = val ((limbs n).take k)) := by
          rw [Hid, HN.out, show k = (limbs n).length by omega, List.take_length, val_limbs]
        clear HN
        go_wp2
        go_ret2
        exact ⟨by rw [HV.out, HB.out]; rfl, rfl⟩
  · have HB : Hid (lowB n = false) := lowB_of_gt (by omega)
    have HN : Hid (lowN n = 0) := lowN_of_gt (by omega)
    go_enter Try.func20, Try.ntmps20
    go_wp2
    go_ret2
    exact ⟨by rw [HN.out, HB.out]; rfl, rfl⟩

theorem shr_calls (w : World) (v : Value) (n : Nat) (k : Int) (hk0 : 0 ≤ k) (hk1 : k ≤ 1000000000) (h : Un w v n) (hl : (limbs n).length ≤ 1000000000) :
    Calls Try.prog 32 #[v, .int .i64 k] w fun e w' => (∃ u, e = .returned u ∧ Un w' u (n / 2 ^ k.toNat)) ∧ Below w.heap.size w w' := by
  obtain ⟨A, c, rfl, ⟨hc, hm⟩, hx, hr⟩ := h
  obtain ⟨k, rfl⟩ := Int.eq_ofNat_of_zero_le hk0
  have hkn : decide (((k : Nat) : Int) < 0) = false := by rw [decide_eq_false_iff_not]; omega
  by_cases h0 : k / 32 < (limbs n).length
  · obtain ⟨ad, rfl, hb, hcell⟩ := hr (by omega)
    obtain ⟨i0, hi, hz0, hz1, hz2⟩ := info_parts info37
    generalize hxs : limbs n = xs at *
    have HX := Lib.hid hxs
    have hcap : decide (c = k / 32) = false := by rw [decide_eq_false_iff_not]; omega
    clear hxs hr
    go_enter Try.func32, Try.ntmps32
    go_wp2_with (at_make; refine wpList_make_full _ rfl _ _ 22 rfl w.heap.size 37 i0 (.int .u32 0) 1 Try.underlying22 hi hz0 hz1 _ _ _ _ (xs.length - k / 32) rfl rfl (by omega) (by omega) (by rw [hz2]; omega) (by unfold maxLen; omega) (Nat.le_refl _) ?_; intro w1 hown hgrow)
    have ho0 := Own.zeros hown
    have hB0 : Below w.heap.size w w1 := (Below.refl _ _).grown hgrow (Nat.le_refl _) (fun _ h => by cases h)
    have hys : Hid ((xs.drop (k / 32)).length = xs.length - k / 32) := by rw [Hid, List.length_drop]
    have hyl := Lib.hid (drop_lt (k / 32) hx)
    clear hown hgrow
    go_loopw [29] (fun m wr => ∃ (i : Nat) (o : List Nat), i ≤ xs.length - k / 32 ∧ m = .int .i64 i ∧ Hid (ShrInv (xs.drop (k / 32)) (k % 32) (xs.length - k / 32) i o) ∧ Own wr w.heap.size (.slice (some ⟨w.heap.size, 0, none⟩) o.length (xs.length - k / 32)) o ∧ Below w.heap.size w wr) (fun m _ => xs.length - k / 32 - (intOf m).toNat)
    case atStart => exact ⟨0, _, Nat.zero_le _, rfl, ShrInv.start _ _ _, ho0, hB0⟩
    case round =>
      obtain ⟨i, o, hik, rfl, HO, hown, hB⟩ := hrel
      have hoL := HO.out.len
      by_cases hlt : i < xs.length - k / 32
      · have hc1 : wr.cell? ((ad.add (k / 32)).add i) = some (.int .u32 ((lb (xs.drop (k / 32)) i : Nat) : Int)) := by
          rw [addr_add_add, lb_drop]
          exact (hB.cell (p := ad.add (k / 32 + i)) (by rw [addr_add_block]; exact hb)).trans (hcell _ (by omega))
        have hc2 := hown.cell (j := i) (by omega)
        have hf2 := hown.frozen i
        have hown' := hown
        rw [hoL] at hown
        have HG : Hid (((lb (xs.drop (k / 32)) i : Nat) : Int) / 2 ^ (k % 32) = ((lb (xs.drop (k / 32)) i / 2 ^ (k % 32) : Nat) : Int)) := cast_shr _ _
        by_cases hi0 : i = 0
        · subst hi0
          rw [addr_add_zero] at hc1
          clear hoL
          go_wp2
          rw [HG.out]
          go_roundw
          case rel =>
            have hst := HO.out.step0 (Nat.mod_lt _ (by decide)) hyl.out (by rw [hys.out]; omega) hys.out.symm
            exact ⟨1, _, by omega, by go_num, hst, Own.set_ hown' 0 _, hB.setCell (by simp) _⟩
          case measure => simp [intOf]; omega
        · have hc3 := hown'.cell (j := i - 1) (by omega)
          have hf3 := hown'.frozen (i - 1)
          have HF : Hid (bits .or .u32 (lb o (i - 1) : Int) (((lb (xs.drop (k / 32)) i : Nat) : Int) * 2 ^ (32 - k % 32) % 4294967296) = ((lb o (i - 1) ||| lb (xs.drop (k / 32)) i * 2 ^ (32 - k % 32) % 4294967296 : Nat) : Int)) :=
            u32_or_cast _ _ (lb_lt HO.out.lt _) _ (cast_shl _ _) (Nat.mod_lt _ (by decide))
          clear hoL
          go_wp2
          go_region
          go_wp2
          rw [HF.out, HG.out]
          go_roundw
          case rel =>
            have hst := HO.out.step (by omega) (Nat.mod_lt _ (by decide)) hyl.out (by rw [hys.out]; omega) hys.out.symm
            exact ⟨i + 1, _, by omega, by go_num, hst, (Own.set_ (Own.set_ hown' i _) (i - 1) _).drew, ((hB.setCell (by simp) _).setCell (by simp) _).drew⟩
          case measure => simp [intOf]; omega
      · have hu := hown.toU HO.out.lt (by omega)
        have hv := HO.out.done hx (by rw [hys.out]; omega)
        rw [← HX.out, val_limbs] at hv
        have HV := Lib.hid hv
        rw [hoL] at hu
        clear hv hoL
        go_wp2_with fail
        refine (make_calls _ _ _ hu).mono ?_
        rintro e w2 ⟨⟨u, rfl, hu2⟩, rfl⟩
        have hu3 : Un wr u (n / 2 ^ ((k : Int)).toNat) := by rw [Un, Int.toNat_natCast, ← HV.out]; exact hu2
        clear hu2
        go_wp2
        go_ret
        exact ⟨⟨_, rfl, hu3⟩, hB⟩
  · have hu : Un w (.slice none 0 0) (n / 2 ^ ((k : Int)).toNat) := by
      have := lt_pow_len n
      have h2 : 4294967296 ^ (limbs n).length ≤ 4294967296 ^ (k / 32) := Nat.pow_le_pow_right (by decide) (by omega)
      have h3 : 2 ^ (32 * (k / 32)) ≤ 2 ^ k := Nat.pow_le_pow_right (by decide) (by omega)
      rw [pow32 (k / 32)] at h2
      rw [Int.toNat_natCast, Nat.div_eq_of_lt (by omega), Un, limbs_zero]
      exact U.nil_ _ _ _
    have HU := Lib.hid hu
    clear hu
    go_enter Try.func32, Try.ntmps32
    go_wp2
    go_ret
    exact ⟨⟨_, rfl, HU.out⟩, Below.refl _ _⟩
end Go.Proofs.Ytnjkdplhoihkiaa
