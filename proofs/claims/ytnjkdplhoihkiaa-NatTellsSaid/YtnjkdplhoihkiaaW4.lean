/- walks -/
import Derived.Test.YtnjkdplhoihkiaaO
namespace Go.Proofs.Ytnjkdplhoihkiaa
open Go.RowKit
set_option linter.unusedVariables false
set_option maxHeartbeats 400000
theorem ret_int' {k : IntKind} {a b : Int} (h : a = b) : Ending.returned (.int k a) = .returned (.int k b) := by rw [h]

theorem info37 : (Try.prog.info? 37).map (fun i => (i.zero, i.size, i.bytes)) = some (some (.int .u32 0), 1, 4) := by kernel_rfl

theorem shl_calls (w : World) (v : Value) (n : Nat) (k : Int) (hk0 : 0 ≤ k) (hk1 : k ≤ 1000000000) (h : Un w v n) (hl : (limbs n).length ≤ 1000000000) :
    Calls Try.prog 30 #[v, .int .i64 k] w fun e w' => (∃ u, e = .returned u ∧ Un w' u (n * 2 ^ k.toNat)) ∧ Below w.heap.size w w' := by
  obtain ⟨A, c, rfl, ⟨hc, hm⟩, hx, hr⟩ := h
  obtain ⟨k, rfl⟩ := Int.eq_ofNat_of_zero_le hk0
  rcases Nat.eq_zero_or_pos n with h0 | h0
  · obtain rfl : n = 0 := h0
    have hz : limbs 0 = [] := limbs_zero
    have hu : Un w (.slice none 0 0) (0 * 2 ^ k) := by rw [Nat.zero_mul, Un, limbs_zero]; exact U.nil_ _ _ _
    have HU := Lib.hid hu
    rw [hz]
    clear hu hz hr hx hm hl hc
    go_enter Try.func30, Try.ntmps30
    go_wp2
    go_ret
    exact ⟨⟨_, rfl, HU.out⟩, Below.refl _ _⟩
  · have hlen : 0 < (limbs n).length := by rw [limbs_pos (by omega)]; simp
    obtain ⟨ad, rfl, hb, hcell⟩ := hr hlen
    have hne : (((limbs n).length : Int) == 0) = false := by rw [beq_eq_false_iff_ne]; omega
    obtain ⟨i0, hi, hz0, hz1, hz2⟩ := info_parts info37
    have hq : Hid (((k : Nat) : Int) / 32 = ((k / 32 : Nat) : Int)) := by rw [Hid]; omega
    generalize hxs : limbs n = xs at *
    have HX := Lib.hid hxs
    clear hxs hr
    have hkn : decide (((k : Nat) : Int) < 0) = false := by rw [decide_eq_false_iff_not]; omega
    go_enter Try.func30, Try.ntmps30
    go_wp2_with (at_make; refine wpList_make_full _ rfl _ _ 22 rfl w.heap.size 37 i0 (.int .u32 0) 1 Try.underlying22 hi hz0 hz1 _ _ _ _ (k / 32 + xs.length + 1) rfl rfl (by omega) (by omega) (by rw [hz2]; omega) (by unfold maxLen; omega) (Nat.le_refl _) ?_; intro w1 hown hgrow)
    have ho0 := Own.zeros hown
    have hB0 : Below w.heap.size w w1 := (Below.refl _ _).grown hgrow (Nat.le_refl _) (fun _ h => by cases h)
    clear hown hgrow
    go_loopw [29] (fun m wr => ∃ (i : Nat) (o : List Nat), i ≤ xs.length ∧ m = .int .i64 i ∧ Hid (ShlInv xs (k / 32) (k % 32) (k / 32 + xs.length + 1) i o) ∧ Own wr w.heap.size (.slice (some ⟨w.heap.size, 0, none⟩) o.length (k / 32 + xs.length + 1)) o ∧ Below w.heap.size w wr) (fun m _ => xs.length - (intOf m).toNat)
    case atStart => exact ⟨0, _, Nat.zero_le _, rfl, ShlInv.start _ _ _ _, ho0, hB0⟩
    case round =>
      obtain ⟨i, o, hik, rfl, HO, hown, hB⟩ := hrel
      have hoL := HO.out.len
      by_cases hlt : i < xs.length
      · have hc1 := (hB.cell (p := ad.add i) (by rw [addr_add_block]; exact hb)).trans (hcell i hlt)
        have hc2 := hown.cell (j := k / 32 + i) (by omega)
        have hc3 := hown.cell (j := k / 32 + i + 1) (by omega)
        have hf2 := hown.frozen (k / 32 + i)
        have hf3 := hown.frozen (k / 32 + i + 1)
        rw [hoL] at hown
        clear hoL
        have HF : Hid (bits .or .u32 (lb o (k / 32 + i) : Int) (((lb xs i : Nat) : Int) * 2 ^ (k % 32) % 4294967296) = ((lb o (k / 32 + i) ||| lb xs i * 2 ^ (k % 32) % 4294967296 : Nat) : Int)) :=
          u32_or_cast _ _ (lb_lt HO.out.lt _) _ (cast_shl _ _) (Nat.mod_lt _ (by decide))
        have HG : Hid (((lb xs i : Nat) : Int) / 2 ^ (32 - k % 32) = ((lb xs i / 2 ^ (32 - k % 32) : Nat) : Int)) := cast_shr _ _
        go_wp2
        go_region
        go_wp2
        rw [HF.out, HG.out]
        go_roundw
        case rel =>
          have hst := HO.out.step (Nat.mod_lt _ (by decide)) hx hlt rfl
          refine ⟨i + 1, _, by omega, by go_num, hst, ?_, ((hB.setCell (by simp) _).setCell (by simp) _).drew⟩
          have h1 := (Own.set_ (o := o) (by rw [HO.out.len]; exact hown) (k / 32 + i) (lb o (k / 32 + i) ||| lb xs i * 2 ^ (k % 32) % 4294967296))
          exact (Own.set_ h1 (k / 32 + i + 1) (lb xs i / 2 ^ (32 - k % 32))).drew
        case measure => simp [intOf]; omega
      · obtain rfl : i = xs.length := by omega
        have hu := hown.toU HO.out.lt (by omega)
        have hv := HO.out.done
        rw [← HX.out, val_limbs] at hv
        have HV := Lib.hid hv
        rw [hoL] at hu
        clear hv hoL hlt
        go_wp2_with fail
        refine (make_calls _ _ _ hu).mono ?_
        rintro e w2 ⟨⟨u, rfl, hu2⟩, rfl⟩
        have hu3 : Un wr u (n * 2 ^ ((k : Int)).toNat) := by rw [Un, Int.toNat_natCast, ← HV.out]; exact hu2
        clear hu2
        go_wp2
        go_ret
        exact ⟨⟨_, rfl, hu3⟩, hB⟩
end Go.Proofs.Ytnjkdplhoihkiaa
