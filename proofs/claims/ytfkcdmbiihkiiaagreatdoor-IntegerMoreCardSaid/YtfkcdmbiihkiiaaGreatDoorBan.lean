/- Limbs as words, and back. -/
import Derived.Test.YtfkcdmbiihkiiaaGreatDoorBam
import Derived.Laws.Externs
import Derived.Shelf.Spec.BitsCarry

namespace Go.Proofs.YtfkcdmbiihkiiaaGreatDoor
open Go.RowKit
set_option linter.unusedVariables false
set_option maxHeartbeats 400000

theorem u64_or32 (x y z : Nat) (hx : x < 4294967296) (hy : y < 4294967296) (hz : x + 4294967296 * y = z) : bits .or .u64 (x : Int) ((4294967296 * y : Nat) : Int) = (z : Int) := by
  rw [u64_or_nat _ _ (by omega) (by omega), Nat.or_comm, nat_join 32 _ x (Nat.mul_mod_right _ _) hx]
  omega
structure PkI (xs : List Nat) (m i : Nat) (o : List Nat) : Prop where
  len : o.length = m
  at_ : ∀ j, j < i → lb o j = lb (packL xs) j
theorem PkI.step {xs : List Nat} {m i : Nat} {o : List Nat} (h : PkI xs m i o) (hi : i < m) (x : Nat) (hx : lb (packL xs) i = x) : PkI xs m (i + 1) (o.set i x) := by
  refine ⟨by simp [h.len], fun j hj => ?_⟩
  rw [lb_set _ _ _ _ (by rw [h.len]; exact hi)]
  by_cases e : i = j
  · rw [if_pos e, ← e, hx]
  · rw [if_neg e]; exact h.at_ j (by omega)
theorem PkI.done {xs : List Nat} {m : Nat} {o : List Nat} (h : PkI xs m m o) (hm : (packL xs).length = m) : o = packL xs :=
  ext_lb (by rw [h.len, hm]) fun j hj => h.at_ j (by rw [← h.len]; exact hj)

set_option maxRecDepth 100000 in
set_option maxHeartbeats 4000000 in
theorem pack_calls (w : World) (v : Value) (xs : List Nat) (h : U w v xs) (hl : xs.length ≤ 1000000) (m : Nat) (hm : (xs.length + 1) / 2 = m) :
    Calls Tryz.prog 133 #[v] w fun e w' => e = .returned (.slice (some ⟨w.heap.size, 0, none⟩) m m) ∧ Ow w' w.heap.size (.slice (some ⟨w.heap.size, 0, none⟩) m m) (packL xs) ∧ Ext w w' := by
  obtain ⟨A, c, rfl, ⟨hc, hmx⟩, hx, hr⟩ := h
  obtain ⟨i0, hi, hz0, hz1, hz2⟩ := info_parts info64
  obtain ⟨n, hn⟩ : ∃ n, xs.length = n := ⟨_, rfl⟩
  rw [hn] at hc hmx hr hl hm ⊢
  have HM : Hid ((packL xs).length = m) := by rw [Hid, packL_len, hn]; exact hm
  have HN := Lib.hid hn
  have HXL := Lib.hid (lb_packL xs)
  have hmi : ((n : Int) + 1) / 2 = (m : Int) := by omega
  obtain ⟨q, hq⟩ : ∃ q, n / 2 = q := ⟨_, rfl⟩
  have hqi : (n : Int) / 2 = (q : Int) := by omega
  obtain ⟨B, hB⟩ : ∃ B, w.heap.size = B := ⟨_, rfl⟩
  rw [hB]
  have HBS := Lib.hid hB
  have hm1 : m ≤ 1000000 := by omega
  clear hn
  go_enter Tryz.func133, Tryz.ntmps133
  go_wp2_with (at_make; refine wpList_make_full _ rfl _ _ 131 rfl w.heap.size 74 i0 (.int .u64 0) 1 Tryz.underlying131 hi hz0 hz1 _ _ _ _ m rfl rfl (by omega) (by omega) (by rw [hz2]; omega) (by unfold maxLen; omega) (Nat.le_refl _) ?_; intro w1 hown hgrow)
  have ho0 := Ow.zeros hown
  have hE0 : Ext w w1 := (Ext.refl w).grown hgrow (Nat.le_refl _) (fun _ h => by cases h)
  rw [hB] at ho0
  clear hown hgrow hi hz0 hz1 hz2 i0
  go_wp2
  go_loopw [13] (fun t wr => ∃ (i : Nat) (o : List Nat), i ≤ q ∧ t = .int .i64 (i : Nat) ∧ Hid (PkI xs m i o) ∧ Ow wr B (.slice (some ⟨B, 0, none⟩) m m) o ∧ Ext w wr) (fun t _ => q - (intOf t).toNat)
  case atStart => exact ⟨0, _, Nat.zero_le _, rfl, ⟨by simp, fun j hj => absurd hj (by omega)⟩, ho0, hE0⟩
  case round =>
    clear ho0 hE0
    obtain ⟨i, o, hiq, rfl, HO, hown, hE⟩ := hrel
    by_cases hlt : i < q
    · obtain ⟨ad, rfl, hb, hcell⟩ := hr (by omega)
      have hc0 := (hE.cell (p := ad.add (2 * i)) (by rw [addr_add_block]; exact hb)).trans (hcell (2 * i) (by omega))
      have hc1 := (hE.cell (p := ad.add (2 * i + 1)) (by rw [addr_add_block]; exact hb)).trans (hcell (2 * i + 1) (by omega))
      rw [addr_at _ (2 * i + 1) (by omega)] at hc1
      have hb0 := lb_lt hx (2 * i)
      have hb1 := lb_lt hx (2 * i + 1)
      have hz := HXL.out i
      obtain ⟨x, hx0⟩ : ∃ x, lb xs (2 * i) = x := ⟨_, rfl⟩
      obtain ⟨y, hy0⟩ : ∃ y, lb xs (2 * i + 1) = y := ⟨_, rfl⟩
      rw [hx0] at hc0 hb0 hz
      rw [hy0] at hc1 hb1 hz
      obtain ⟨z, hzz⟩ : ∃ z, x + 4294967296 * y = z := ⟨_, rfl⟩
      rw [hzz] at hz
      have hor := u64_or32 x y z hb0 hb1 hzz
      have hyi : (y : Int) * 4294967296 = ((4294967296 * y : Nat) : Int) := by omega
      have hyw : IntKind.u64.wrap ((4294967296 * y : Nat) : Int) = ((4294967296 * y : Nat) : Int) := by rw [IntKind.wrap_u64]; omega
      have hym : ((4294967296 * y : Nat) : Int) % 18446744073709551616 = ((4294967296 * y : Nat) : Int) := by omega
      have hxw : IntKind.u64.wrap (x : Int) = (x : Int) := by rw [IntKind.wrap_u64]; omega
      have hyw2 : IntKind.u64.wrap (y : Int) = (y : Int) := by rw [IntKind.wrap_u64]; omega
      have hf := hown.frozen i
      have hcz := hown.cell (j := i) (by omega)
      have hown2 := hown.set_ i z
      have hE2 := hE.setCell (p := ⟨B, i, none⟩) (by rw [hB]; exact Nat.le_refl _) (.int .u64 (z : Nat))
      have HST : Hid (PkI xs m (i + 1) (o.set i z)) := HO.out.step (by omega) z hz
      generalize 4294967296 * y = y2 at *
      have h2a : (0 : Int) ≤ 2 * (i : Int) := by omega
      have h2b : 2 * (i : Int) < (n : Int) := by omega
      have h2c : 2 * (i : Int) + 1 < (n : Int) := by omega
      have h2d : (2 * (i : Int)).toNat = 2 * i := by omega
      have h2e : (2 * (i : Int) + 1).toNat = 2 * i + 1 := by omega
      have h2f : (i : Int) < (m : Int) := by omega
      have hbn : (ad.add (2 * i)).block ≠ B := by rw [addr_add_block]; omega
      have hbn2 : ad.block ≠ B := by omega
      clear hx0 hy0 hz hzz hb0 hb1 hown HO hE
      go_wp2
      go_region
      all_goals
        go_wp2
        go_roundw
        case rel => exact ⟨i + 1, _, by omega, by go_num, HST, hown2.drew, hE2.drew⟩
        case measure => simp [intOf]; omega
    · obtain rfl : i = q := by omega
      by_cases hodd : n % 2 = 1
      · have hmm : m = i + 1 := by omega
        have hm2 : (n : Int).tmod 2 = 1 := by rw [Int.tmod_eq_emod_of_nonneg (by omega)]; omega
        have hm3 : (n : Int) % 2 = 1 := by omega
        obtain ⟨ad, rfl, hb, hcell⟩ := hr (by omega)
        have hc0 := (hE.cell (p := ad.add (2 * i)) (by rw [addr_add_block]; exact hb)).trans (hcell (2 * i) (by omega))
        have hz := HXL.out i
        rw [lb_out (o := xs) (j := 2 * i + 1) (by rw [HN.out]; omega), Nat.mul_zero, Nat.add_zero] at hz
        have hb0 := lb_lt hx (2 * i)
        obtain ⟨x, hx0⟩ : ∃ x, lb xs (2 * i) = x := ⟨_, rfl⟩
        rw [hx0] at hc0 hb0 hz
        have hxw : IntKind.u64.wrap (x : Int) = (x : Int) := by rw [IntKind.wrap_u64]; omega
        have hf := hown.frozen i
        have hcz := hown.cell (j := i) (by omega)
        have hown2 := hown.set_ i x
        have hE2 := hE.setCell (p := ⟨B, i, none⟩) (by rw [hB]; exact Nat.le_refl _) (.int .u64 (x : Nat))
        have HST : Hid (PkI xs m (i + 1) (o.set i x)) := HO.out.step (by omega) x hz
        rw [← hmm] at HST
        have hdone := HST.out.done HM.out
        rw [hdone] at hown2
        have e1 : (n : Int) - 1 = ((2 * i : Nat) : Int) := by omega
        have e2 : (m : Int) - 1 = (i : Int) := by omega
        have e3 : 2 * i < n := by omega
        have e4 : i < m := by omega
        clear hx0 hz hb0 hown HO hE hdone HST
        go_wp2
        go_ret
        exact ⟨rfl, hown2, hE2⟩
      · have hmm : m = i := by omega
        have hm2 : (n : Int).tmod 2 = 0 := by rw [Int.tmod_eq_emod_of_nonneg (by omega)]; omega
        have hm3 : (n : Int) % 2 = 0 := by omega
        subst hmm
        have hdone := HO.out.done HM.out
        rw [hdone] at hown
        clear hdone HO
        go_wp2
        go_ret
        exact ⟨rfl, hown, hE⟩

/-- The natural of limbs: noughts at the end are cut. -/
theorem trim32_calls (w : World) (v : Value) (xs : List Nat) (h : U w v xs) :
    Calls Tryz.prog 134 #[v] w fun e w' => (∃ u, e = .returned u ∧ Un w u (val xs)) ∧ w = w' := by
  have h' := h
  obtain ⟨A, c, rfl, ⟨hc, hm⟩, hx, hr⟩ := h
  go_enter Tryz.func134, Tryz.ntmps134
  go_wp2
  go_loop [3] (fun n => ∃ k : Nat, k ≤ xs.length ∧ n = .int .i64 k ∧ Hid (∀ j, k ≤ j → j < xs.length → lb xs j = 0)) (fun n => (intOf n).toNat)
  case atStart => exact ⟨xs.length, Nat.le_refl _, rfl, fun j h1 h2 => by omega⟩
  case round =>
    obtain ⟨k, hk, rfl, hz⟩ := hrel
    have hfin : ∀ c', k ≤ c' → (0 < k → lb xs (k - 1) ≠ 0) → Un w (.slice A k c') (val xs) := fun c' h1 h2 => by
      unfold Un; rw [strip_eq xs k hx hk hz.out h2]; exact h'.take hk h1
    rcases Nat.eq_zero_or_pos k with rfl | h0
    · have HF := Lib.hid (hfin 0 (Nat.le_refl _) (fun h => absurd h (by omega)))
      clear hfin
      go_wp2
      go_ways
      go_ret
      exact ⟨⟨_, rfl, HF.out⟩, rfl⟩
    · obtain ⟨ad, rfl, hb, hcell⟩ := hr (by omega)
      have hc1 := hcell (k - 1) (by omega)
      by_cases hx0 : lb xs (k - 1) = 0
      · have ht : ((((lb xs (k - 1) : Nat)) : Int) == 0) = true := by rw [hx0]; rfl
        have HX := Lib.hid hx0
        clear hx0
        go_wp2
        go_round
        case rel => exact ⟨k - 1, by omega, by go_num, fun j h1 h2 => by
          rcases Nat.lt_or_ge j k with h3 | h3
          · have : j = k - 1 := by omega
            subst this; exact HX.out
          · exact hz.out j h3 h2⟩
        case measure => simp [intOf]; omega
      · have ht : ((((lb xs (k - 1) : Nat)) : Int) == 0) = false := by rw [beq_eq_false_iff_ne]; omega
        have HF := Lib.hid (hfin k (Nat.le_refl _) (fun _ => hx0))
        clear hfin hx0
        go_wp2
        go_ret
        exact ⟨⟨_, rfl, HF.out⟩, rfl⟩

structure UnI (ws : List Nat) (m i : Nat) (o : List Nat) : Prop where
  len : o.length = m
  at_ : ∀ j, j < 2 * i → lb o j = lb (unpackL ws) j
theorem UnI.step {ws : List Nat} {m i : Nat} {o : List Nat} (h : UnI ws m i o) (hi : 2 * i + 1 < m) (x : Nat) (hx : lb ws i = x) : UnI ws m (i + 1) ((o.set (2 * i) (x % 4294967296)).set (2 * i + 1) (x / 4294967296)) := by
  refine ⟨by simp [h.len], fun j hj => ?_⟩
  have hu := lb_unpackL ws i
  rw [hx] at hu
  rw [lb_set _ _ _ _ (by rw [List.length_set, h.len]; exact hi), lb_set _ _ _ _ (by rw [h.len]; omega)]
  by_cases e : 2 * i + 1 = j
  · rw [if_pos e, ← e, hu.2]
  · rw [if_neg e]
    by_cases e2 : 2 * i = j
    · rw [if_pos e2, ← e2, hu.1]
    · rw [if_neg e2]; exact h.at_ j (by omega)
theorem UnI.done {ws : List Nat} {m i : Nat} {o : List Nat} (h : UnI ws m i o) (hm : (unpackL ws).length = m) (hi : 2 * i = m) : o = unpackL ws :=
  ext_lb (by rw [h.len, hm]) fun j hj => h.at_ j (by rw [hi, ← h.len]; exact hj)

set_option maxRecDepth 100000 in
set_option maxHeartbeats 4000000 in
theorem unpack_calls (w : World) (g0 : Nat) (v : Value) (ws : List Nat) (h : V g0 w v ws) (hl : ws.length ≤ 1000000) :
    Calls Tryz.prog 131 #[v] w fun e w' => (∃ u, e = .returned u ∧ Un w' u (wal ws)) ∧ Ext w w' := by
  obtain ⟨A, c, rfl, ⟨hc, hmx⟩, hx, hr⟩ := h
  obtain ⟨i0, hi, hz0, hz1, hz2⟩ := info_parts info32
  obtain ⟨n, hn⟩ : ∃ n, ws.length = n := ⟨_, rfl⟩
  rw [hn] at hc hmx hr hl ⊢
  obtain ⟨m, hm⟩ : ∃ m, 2 * n = m := ⟨_, rfl⟩
  have HM : Hid ((unpackL ws).length = m) := by rw [Hid, unpackL_len, hn]; exact hm
  have hmi : (2 : Int) * (n : Int) = (m : Int) := by omega
  obtain ⟨B, hB⟩ : ∃ B, w.heap.size = B := ⟨_, rfl⟩
  have hm1 : m ≤ 2000000 := by omega
  have HW := Lib.hid (unpackL_lt ws hx)
  have HV := Lib.hid (val_unpackL ws)
  have HTR := Lib.hid (fun W v h => trim32_calls W v (unpackL ws) h)
  clear hn
  go_enter Tryz.func131, Tryz.ntmps131
  go_wp2_with (at_make; refine wpList_make_full _ rfl _ _ 22 rfl w.heap.size 56 i0 (.int .u32 0) 1 Tryz.underlying22 hi hz0 hz1 _ _ _ _ m rfl rfl (by omega) (by omega) (by rw [hz2]; omega) (by unfold maxLen; omega) (Nat.le_refl _) ?_; intro w1 hown hgrow)
  have ho0 : Own w1 w.heap.size (.slice (some ⟨w.heap.size, 0, none⟩) m m) (List.replicate m 0) := by
    have := Own.zeros hown
    rwa [List.length_replicate] at this
  have hE0 : Ext w w1 := (Ext.refl w).grown hgrow (Nat.le_refl _) (fun _ h => by cases h)
  rw [hB] at ho0
  clear hown hgrow hi hz0 hz1 hz2 i0
  go_wp2
  go_loopw [12] (fun t wr => ∃ (i : Nat) (o : List Nat), i ≤ n ∧ t = .int .i64 (i : Nat) ∧ Hid (UnI ws m i o) ∧ Own wr B (.slice (some ⟨B, 0, none⟩) m m) o ∧ Ext w wr) (fun t _ => n - (intOf t).toNat)
  case atStart => exact ⟨0, _, Nat.zero_le _, rfl, ⟨by simp, fun j hj => absurd hj (by omega)⟩, ho0, hE0⟩
  case round =>
    clear ho0 hE0
    obtain ⟨i, o, hiq, rfl, HO, hown, hE⟩ := hrel
    by_cases hlt : i < n
    · obtain ⟨ad, rfl, hb, hne, hcell⟩ := hr (by omega)
      have hc0 := (hE.cell (p := ad.add i) (by rw [addr_add_block]; exact hb)).trans (hcell i hlt)
      have hb0 : lb ws i < 18446744073709551616 := lb_lt_of (by decide) hx i
      obtain ⟨x, hx0⟩ : ∃ x, lb ws i = x := ⟨_, rfl⟩
      rw [hx0] at hc0 hb0
      have HST : Hid (UnI ws m (i + 1) ((o.set (2 * i) (x % 4294967296)).set (2 * i + 1) (x / 4294967296))) := HO.out.step (by omega) x hx0
      have hol := HO.out.len
      have hf0 := hown.frozen' (2 * i)
      have hf1 := hown.frozen' (2 * i + 1)
      have hk0 := hown.rd.2 (2 * i) (by omega)
      have hk1 := hown.rd.2 (2 * i + 1) (by omega)
      have hown2 := (hown.set' (2 * i) (x % 4294967296)).set' (2 * i + 1) (x / 4294967296)
      have hE2 := (hE.setCell (p := ⟨B, 2 * i, none⟩) (by rw [hB]; exact Nat.le_refl _) (.int .u32 (x % 4294967296 : Nat))).setCell (p := ⟨B, 2 * i + 1, none⟩) (by rw [hB]; exact Nat.le_refl _) (.int .u32 (x / 4294967296 : Nat))
      obtain ⟨x0, hxx0⟩ : ∃ x0, x % 4294967296 = x0 := ⟨_, rfl⟩
      obtain ⟨x1, hxx1⟩ : ∃ x1, x / 4294967296 = x1 := ⟨_, rfl⟩
      rw [hxx0, hxx1] at HST hown2 hE2
      have f0 : IntKind.u32.wrap (x : Int) = (x0 : Int) := by rw [IntKind.wrap_u32]; omega
      have f00 : (x : Int) % 4294967296 = (x0 : Int) := by omega
      have f1 : (x : Int) / 4294967296 = (x1 : Int) := by omega
      have hx1b : x1 < 4294967296 := by omega
      have f2 : IntKind.u32.wrap (x1 : Int) = (x1 : Int) := by rw [IntKind.wrap_u32]; omega
      have f3 : (x1 : Int) % 4294967296 = (x1 : Int) := by omega
      have h2a : (0 : Int) ≤ 2 * (i : Int) := by omega
      have h2b : 2 * (i : Int) < (m : Int) := by omega
      have h2c : 2 * (i : Int) + 1 < (m : Int) := by omega
      have h2d : (2 * (i : Int)).toNat = 2 * i := by omega
      have h2e : (2 * (i : Int) + 1).toNat = 2 * i + 1 := by omega
      have hbn : (ad.add i).block ≠ B := by rw [addr_add_block]; omega
      clear hx0 hb0 hxx0 hxx1 hown HO hE hol
      go_wp2
      go_roundw
      case rel => exact ⟨i + 1, _, by omega, by go_num, HST, hown2, hE2⟩
      case measure => simp [intOf]; omega
    · obtain rfl : i = n := by omega
      have hdone := HO.out.done HM.out hm
      rw [hdone] at hown
      have hu := hown.toU HW.out (by rw [HM.out]; omega)
      clear hdone HO hown
      go_wp2_with (fail)
      refine (HTR.out _ _ hu).mono ?_
      rintro e w2 ⟨⟨u, rfl, hu2⟩, rfl⟩
      rw [HV.out] at hu2
      have HF : Hid (∃ u', Ending.returned u = .returned u' ∧ Un wr u' (wal ws)) := ⟨_, rfl, hu2⟩
      clear hu2 hu
      go_wp2
      go_ret
      exact ⟨HF.out, hE⟩
end Go.Proofs.YtfkcdmbiihkiiaaGreatDoor
/- Words added to a row, and taken away from it. -/
namespace Go.Proofs.YtfkcdmbiihkiiaaGreatDoor
open Go.RowKit
set_option linter.unusedVariables false
set_option maxHeartbeats 400000

theorem run_addc (x y c s d : Nat) (hc : c ≤ 1) (hs : (x + y + c) % 18446744073709551616 = s) (hd : (x + y + c) / 18446744073709551616 = d) (w : World) :
    (callFunc 156 #[.int .u64 (x : Nat), .int .u64 (y : Nat), .int .u64 (c : Nat)]).run Tryz.prog w = .ok (.value (.tuple #[.int .u64 (s : Nat), .int .u64 (d : Nat)])) w := by
  rw [run_callFunc_extern Tryz.func156 (by kernel_rfl) (by kernel_rfl) (by kernel_rfl) (e := add64Entry) (by kernel_rfl), run_add64 x y c (by omega) (by omega) (by omega) (by omega), ← hs, ← hd]
  simp only [Result.andThen]
  congr 5 <;> omega
theorem run_subc (x y b s d : Nat) (hb : b ≤ 1) (hs : (x + 18446744073709551616 - y - b) % 18446744073709551616 = s) (hd : (if x < y + b then 1 else 0) = d) (w : World) :
    (callFunc 164 #[.int .u64 (x : Nat), .int .u64 (y : Nat), .int .u64 (b : Nat)]).run Tryz.prog w = .ok (.value (.tuple #[.int .u64 (s : Nat), .int .u64 (d : Nat)])) w := by
  rw [run_callFunc_extern Tryz.func164 (by kernel_rfl) (by kernel_rfl) (by kernel_rfl) (e := sub64Entry) (by kernel_rfl), run_sub64 x y b hb, hs, hd]
  rfl

/-- The first i words are added. -/
structure AdI (n off : Nat) (A : Nat) (i : Nat) (o : List Nat) (cy : Nat) : Prop where
  len : o.length = n
  lt : ∀ x ∈ o, x < 18446744073709551616
  cy1 : cy ≤ 1
  val : wal o + BB ^ (off + i) * cy = A
theorem AdI.step {n off A i : Nat} {o : List Nat} {cy : Nat} (h : AdI n off A i o cy) (hi : off + i < n) (y s d : Nat) (hy : y < 18446744073709551616)
    (hs : (lb o (off + i) + y + cy) % 18446744073709551616 = s) (hd : (lb o (off + i) + y + cy) / 18446744073709551616 = d) : AdI n off (A + BB ^ (off + i) * y) (i + 1) (o.set (off + i) s) d := by
  have hx : lb o (off + i) < 18446744073709551616 := lb_lt_of (by decide) h.lt _
  have h1 := h.cy1
  refine ⟨by simp [h.len], set_lt h.lt (by omega), by omega, ?_⟩
  rw [← Nat.add_assoc, Nat.pow_succ]
  exact wadd_step _ _ _ _ _ _ _ _ _ (wal_set o (off + i) s (by rw [h.len]; exact hi)) h.val (by unfold BB; omega)
/-- The first i words are taken away. -/
structure SbI (n off : Nat) (A T : Nat) (i : Nat) (o : List Nat) (cy : Nat) : Prop where
  len : o.length = n
  lt : ∀ x ∈ o, x < 18446744073709551616
  cy1 : cy ≤ 1
  val : wal o + T = A + BB ^ (off + i) * cy
theorem SbI.step {n off A T i : Nat} {o : List Nat} {cy : Nat} (h : SbI n off A T i o cy) (hi : off + i < n) (y s d : Nat) (hy : y < 18446744073709551616)
    (hs : (lb o (off + i) + 18446744073709551616 - y - cy) % 18446744073709551616 = s) (hd : (if lb o (off + i) < y + cy then 1 else 0) = d) : SbI n off A (T + BB ^ (off + i) * y) (i + 1) (o.set (off + i) s) d := by
  have hx : lb o (off + i) < 18446744073709551616 := lb_lt_of (by decide) h.lt _
  have h1 := h.cy1
  have hd1 : d ≤ 1 := by rw [← hd]; split <;> omega
  refine ⟨by simp [h.len], set_lt h.lt (by omega), hd1, ?_⟩
  rw [show off + (i + 1) = off + i + 1 from rfl, Nat.pow_succ]
  refine wsub_step _ _ _ _ _ _ _ _ _ _ (wal_set o (off + i) s (by rw [h.len]; exact hi)) h.val ?_
  unfold BB
  split at hd <;> omega

set_option maxRecDepth 100000 in
set_option maxHeartbeats 4000000 in
theorem addTo_calls (w : World) (g base n c off zl zc : Nat) (o as_ : List Nat) (va : Value) (hown : Ow w base (.slice (some ⟨g, 0, none⟩) n c) o) (ho : ∀ x ∈ o, x < 18446744073709551616)
    (hz : off + zl ≤ n) (hzc : zl ≤ zc) (hn : n ≤ 1000000) (ha : V g w va as_) (hal : as_.length ≤ zl) :
    Calls Tryz.prog 139 #[.slice (some ⟨g, off, none⟩) zl zc, va] w fun e w' => (∃ o' cy, e = .returned (.int .u64 (cy : Nat)) ∧ AdI n off (wal o + BB ^ off * wal as_) zl o' cy ∧ Ow w' base (.slice (some ⟨g, 0, none⟩) n c) o') ∧ But g w w' := by
  have hlim := ha.lim
  obtain ⟨A, ca, rfl, ⟨hca, hma⟩, hx, hr⟩ := id ha
  obtain ⟨na, hna⟩ : ∃ na, as_.length = na := ⟨_, rfl⟩
  have hcap := hown.caps
  have hgb := hown.block.2
  have HN := Lib.hid hna
  have HS : Hid (AdI n off (wal o + BB ^ off * wal (as_.take 0)) 0 o 0) := ⟨hcap.1.symm, ho, Nat.zero_le _, by simp [wal]⟩
  have HTK := Lib.hid (fun k => wal_take_succ as_ k)
  have HT2 : Hid (as_.take na = as_) := by rw [Hid, ← hna]; exact List.take_length
  rw [hna] at hca hma hr hal ⊢
  have hB0 := But.refl g w
  clear ha hna hcap ho
  go_enter Tryz.func139, Tryz.ntmps139
  go_wp2
  go_loopw [16, 5] (fun t s wr => ∃ (i : Nat) (o' : List Nat) (cy : Nat), i ≤ na ∧ t = .int .i64 (i : Nat) ∧ s = .int .u64 (cy : Nat) ∧ Hid (AdI n off (wal o + BB ^ off * wal (as_.take i)) i o' cy) ∧ Ow wr base (.slice (some ⟨g, 0, none⟩) n c) o' ∧ But g w wr) (fun t _ _ => na - (intOf t).toNat)
  case atStart => exact ⟨0, o, 0, Nat.zero_le _, rfl, rfl, HS, hown, hB0⟩
  case round =>
    clear HS hown hB0
    obtain ⟨i, o', cy, hi, rfl, rfl, HO, hown, hB⟩ := hrel
    by_cases hlt : i < na
    · obtain ⟨ad, rfl, hb, hne, hcell⟩ := hr (by omega)
      have hc0 := (hB.cell (p := ad.add i) (by rw [addr_add_block]; exact hb) (by rw [addr_add_block]; exact hne)).trans (hcell i hlt)
      have hy : lb as_ i < 18446744073709551616 := lb_lt_of (by decide) hx i
      have htk := HTK.out i (by rw [HN.out]; exact hlt)
      have hcz := hown.cell (j := off + i) (by omega)
      have hf := hown.frozen (off + i)
      have hx1 : lb o' (off + i) < 18446744073709551616 := lb_lt_of (by decide) HO.out.lt _
      have hcy := HO.out.cy1
      obtain ⟨y, hyy⟩ : ∃ y, lb as_ i = y := ⟨_, rfl⟩
      rw [hyy] at hc0 hy htk
      obtain ⟨s, hs⟩ : ∃ s, (lb o' (off + i) + y + cy) % 18446744073709551616 = s := ⟨_, rfl⟩
      obtain ⟨d, hd⟩ : ∃ d, (lb o' (off + i) + y + cy) / 18446744073709551616 = d := ⟨_, rfl⟩
      have hst := HO.out.step (by omega) y s d hy hs hd
      rw [Nat.add_assoc (wal o), Nat.pow_add, Nat.mul_assoc, ← Nat.mul_add, ← htk] at hst
      have HST := Lib.hid hst
      have hown2 := hown.set_ (off + i) s
      have hB2 := hB.setCell (off + i) (.int .u64 (s : Nat))
      obtain ⟨x, hxx⟩ : ∃ x, lb o' (off + i) = x := ⟨_, rfl⟩
      rw [hxx] at hs hd hcz hx1
      have hadd := run_addc x y cy s d hcy hs hd
      clear hst htk hyy hs hd hxx hown hB HO hy hx1 hcy
      go_wp2
      go_roundw
      case rel => exact ⟨i + 1, _, d, by omega, by go_num, rfl, HST, hown2, hB2⟩
      case measure => simp [intOf]; omega
    · obtain rfl : i = na := by omega
      rw [HT2.out] at HO
      clear hr hlt
      go_wp2
      go_loopw [9, 5] (fun t s wx => ∃ (j : Nat) (o2 : List Nat) (cy2 : Nat), j ≤ zl ∧ t = .int .i64 (j : Nat) ∧ s = .int .u64 (cy2 : Nat) ∧ Hid (AdI n off (wal o + BB ^ off * wal as_) j o2 cy2) ∧ Ow wx base (.slice (some ⟨g, 0, none⟩) n c) o2 ∧ But g w wx) (fun t _ _ => zl - (intOf t).toNat)
      case atStart => exact ⟨i, o', cy, hal, rfl, rfl, HO, hown, hB⟩
      case round =>
        clear hown hB HO
        obtain ⟨j, o2, cy2, hj, rfl, rfl, HO, hown, hB⟩ := hrel
        have hcy := HO.out.cy1
        by_cases h0 : cy2 = 0
        · subst h0
          have HF : Hid (∃ o' cy, Ending.returned (.int .u64 0) = .returned (.int .u64 (cy : Nat)) ∧ AdI n off (wal o + BB ^ off * wal as_) zl o' cy ∧ Ow wr base (.slice (some ⟨g, 0, none⟩) n c) o') := ⟨o2, 0, rfl, ⟨HO.out.len, HO.out.lt, Nat.zero_le _, by have := HO.out.val; simpa using this⟩, hown⟩
          clear hown HO
          go_wp2
          go_ret
          exact ⟨HF.out, hB⟩
        · have hne : (((cy2 : Nat) : Int) != 0) = true := by rw [bne_iff_ne]; omega
          by_cases hjz : j < zl
          · have hcz := hown.cell (j := off + j) (by omega)
            have hf := hown.frozen (off + j)
            have hx1 : lb o2 (off + j) < 18446744073709551616 := lb_lt_of (by decide) HO.out.lt _
            obtain ⟨s, hs⟩ : ∃ s, (lb o2 (off + j) + 0 + cy2) % 18446744073709551616 = s := ⟨_, rfl⟩
            obtain ⟨d, hd⟩ : ∃ d, (lb o2 (off + j) + 0 + cy2) / 18446744073709551616 = d := ⟨_, rfl⟩
            have hst := HO.out.step (by omega) 0 s d (by decide) hs hd
            rw [Nat.mul_zero, Nat.add_zero] at hst
            have HST := Lib.hid hst
            have hown2 := hown.set_ (off + j) s
            have hB2 := hB.setCell (off + j) (.int .u64 (s : Nat))
            obtain ⟨x, hxx⟩ : ∃ x, lb o2 (off + j) = x := ⟨_, rfl⟩
            rw [hxx] at hs hd hcz hx1
            have hadd : ∀ w, (callFunc 156 #[.int .u64 (x : Nat), .int .u64 0, .int .u64 (cy2 : Nat)]).run Tryz.prog w = .ok (.value (.tuple #[.int .u64 (s : Nat), .int .u64 (d : Nat)])) w := run_addc x 0 cy2 s d hcy hs hd
            clear hst hs hd hxx hown hB HO hx1 hcy h0
            go_wp2
            go_roundw
            case rel => exact ⟨j + 1, _, d, by omega, by go_num, rfl, HST, hown2, hB2⟩
            case measure => simp [intOf]; omega
          · obtain rfl : j = zl := by omega
            have HF : Hid (∃ o' cy, Ending.returned (.int .u64 (cy2 : Nat)) = .returned (.int .u64 (cy : Nat)) ∧ AdI n off (wal o + BB ^ off * wal as_) j o' cy ∧ Ow wr base (.slice (some ⟨g, 0, none⟩) n c) o') := ⟨o2, cy2, rfl, HO.out, hown⟩
            clear hown HO h0
            go_wp2
            go_ret
            exact ⟨HF.out, hB⟩
set_option maxRecDepth 100000 in
set_option maxHeartbeats 4000000 in
theorem takeFrom_calls (w : World) (g base n c off zl zc : Nat) (o as_ : List Nat) (va : Value) (hown : Ow w base (.slice (some ⟨g, 0, none⟩) n c) o) (ho : ∀ x ∈ o, x < 18446744073709551616)
    (hz : off + zl ≤ n) (hzc : zl ≤ zc) (hn : n ≤ 1000000) (ha : V g w va as_) (hal : as_.length ≤ zl) :
    Calls Tryz.prog 166 #[.slice (some ⟨g, off, none⟩) zl zc, va] w fun e w' => e = .returned (.tuple #[]) ∧ (∃ o' cy, SbI n off (wal o) (BB ^ off * wal as_) zl o' cy ∧ Ow w' base (.slice (some ⟨g, 0, none⟩) n c) o') ∧ But g w w' := by
  have hlim := ha.lim
  obtain ⟨A, ca, rfl, ⟨hca, hma⟩, hx, hr⟩ := id ha
  obtain ⟨na, hna⟩ : ∃ na, as_.length = na := ⟨_, rfl⟩
  have hcap := hown.caps
  have hgb := hown.block.2
  have HN := Lib.hid hna
  have HS : Hid (SbI n off (wal o) (BB ^ off * wal (as_.take 0)) 0 o 0) := ⟨hcap.1.symm, ho, Nat.zero_le _, by simp [wal]⟩
  have HTK := Lib.hid (fun k => wal_take_succ as_ k)
  have HT2 : Hid (as_.take na = as_) := by rw [Hid, ← hna]; exact List.take_length
  rw [hna] at hca hma hr hal ⊢
  have hB0 := But.refl g w
  clear ha hna hcap ho
  go_enter Tryz.func166, Tryz.ntmps166
  go_wp2
  go_loopw [15, 4] (fun t s wr => ∃ (i : Nat) (o' : List Nat) (cy : Nat), i ≤ na ∧ t = .int .i64 (i : Nat) ∧ s = .int .u64 (cy : Nat) ∧ Hid (SbI n off (wal o) (BB ^ off * wal (as_.take i)) i o' cy) ∧ Ow wr base (.slice (some ⟨g, 0, none⟩) n c) o' ∧ But g w wr) (fun t _ _ => na - (intOf t).toNat)
  case atStart => exact ⟨0, o, 0, Nat.zero_le _, rfl, rfl, HS, hown, hB0⟩
  case round =>
    clear HS hown hB0
    obtain ⟨i, o', cy, hi, rfl, rfl, HO, hown, hB⟩ := hrel
    by_cases hlt : i < na
    · obtain ⟨ad, rfl, hb, hne, hcell⟩ := hr (by omega)
      have hc0 := (hB.cell (p := ad.add i) (by rw [addr_add_block]; exact hb) (by rw [addr_add_block]; exact hne)).trans (hcell i hlt)
      have hy : lb as_ i < 18446744073709551616 := lb_lt_of (by decide) hx i
      have htk := HTK.out i (by rw [HN.out]; exact hlt)
      have hcz := hown.cell (j := off + i) (by omega)
      have hf := hown.frozen (off + i)
      have hx1 : lb o' (off + i) < 18446744073709551616 := lb_lt_of (by decide) HO.out.lt _
      have hcy := HO.out.cy1
      obtain ⟨y, hyy⟩ : ∃ y, lb as_ i = y := ⟨_, rfl⟩
      rw [hyy] at hc0 hy htk
      obtain ⟨s, hs⟩ : ∃ s, (lb o' (off + i) + 18446744073709551616 - y - cy) % 18446744073709551616 = s := ⟨_, rfl⟩
      obtain ⟨d, hd⟩ : ∃ d, (if lb o' (off + i) < y + cy then 1 else 0) = d := ⟨_, rfl⟩
      have hst := HO.out.step (by omega) y s d hy hs hd
      rw [Nat.pow_add, Nat.mul_assoc, ← Nat.mul_add, ← htk] at hst
      have HST := Lib.hid hst
      have hown2 := hown.set_ (off + i) s
      have hB2 := hB.setCell (off + i) (.int .u64 (s : Nat))
      obtain ⟨x, hxx⟩ : ∃ x, lb o' (off + i) = x := ⟨_, rfl⟩
      rw [hxx] at hs hd hcz hx1
      have hadd := run_subc x y cy s d hcy hs hd
      clear hst htk hyy hs hd hxx hown hB HO hy hx1 hcy
      go_wp2
      go_roundw
      case rel => exact ⟨i + 1, _, d, by omega, by go_num, rfl, HST, hown2, hB2⟩
      case measure => simp [intOf]; omega
    · obtain rfl : i = na := by omega
      rw [HT2.out] at HO
      clear hr hlt
      go_wp2
      go_loopw [8, 4] (fun t s wx => ∃ (j : Nat) (o2 : List Nat) (cy2 : Nat), j ≤ zl ∧ t = .int .i64 (j : Nat) ∧ s = .int .u64 (cy2 : Nat) ∧ Hid (SbI n off (wal o) (BB ^ off * wal as_) j o2 cy2) ∧ Ow wx base (.slice (some ⟨g, 0, none⟩) n c) o2 ∧ But g w wx) (fun t _ _ => zl - (intOf t).toNat)
      case atStart => exact ⟨i, o', cy, hal, rfl, rfl, HO, hown, hB⟩
      case round =>
        clear hown hB HO
        obtain ⟨j, o2, cy2, hj, rfl, rfl, HO, hown, hB⟩ := hrel
        have hcy := HO.out.cy1
        by_cases h0 : cy2 = 0
        · subst h0
          have HF : Hid (∃ o' cy, SbI n off (wal o) (BB ^ off * wal as_) zl o' cy ∧ Ow wr base (.slice (some ⟨g, 0, none⟩) n c) o') := ⟨o2, 0, ⟨HO.out.len, HO.out.lt, Nat.zero_le _, by have := HO.out.val; simpa using this⟩, hown⟩
          clear hown HO
          go_wp2
          go_end0
          exact ⟨rfl, HF.out, hB⟩
        · have hne : (((cy2 : Nat) : Int) != 0) = true := by rw [bne_iff_ne]; omega
          by_cases hjz : j < zl
          · have hcz := hown.cell (j := off + j) (by omega)
            have hf := hown.frozen (off + j)
            have hx1 : lb o2 (off + j) < 18446744073709551616 := lb_lt_of (by decide) HO.out.lt _
            obtain ⟨s, hs⟩ : ∃ s, (lb o2 (off + j) + 18446744073709551616 - 0 - cy2) % 18446744073709551616 = s := ⟨_, rfl⟩
            obtain ⟨d, hd⟩ : ∃ d, (if lb o2 (off + j) < 0 + cy2 then 1 else 0) = d := ⟨_, rfl⟩
            have hst := HO.out.step (by omega) 0 s d (by decide) hs hd
            rw [Nat.mul_zero, Nat.add_zero] at hst
            have HST := Lib.hid hst
            have hown2 := hown.set_ (off + j) s
            have hB2 := hB.setCell (off + j) (.int .u64 (s : Nat))
            obtain ⟨x, hxx⟩ : ∃ x, lb o2 (off + j) = x := ⟨_, rfl⟩
            rw [hxx] at hs hd hcz hx1
            have hadd : ∀ w, (callFunc 164 #[.int .u64 (x : Nat), .int .u64 0, .int .u64 (cy2 : Nat)]).run Tryz.prog w = .ok (.value (.tuple #[.int .u64 (s : Nat), .int .u64 (d : Nat)])) w := run_subc x 0 cy2 s d hcy hs hd
            clear hst hs hd hxx hown hB HO hx1 hcy h0
            go_wp2
            go_roundw
            case rel => exact ⟨j + 1, _, d, by omega, by go_num, rfl, HST, hown2, hB2⟩
            case measure => simp [intOf]; omega
          · obtain rfl : j = zl := by omega
            have HF : Hid (∃ o' cy, SbI n off (wal o) (BB ^ off * wal as_) j o' cy ∧ Ow wr base (.slice (some ⟨g, 0, none⟩) n c) o') := ⟨o2, cy2, HO.out, hown⟩
            clear hown HO h0
            go_wp2
            go_end0
            exact ⟨rfl, HF.out, hB⟩
end Go.Proofs.YtfkcdmbiihkiiaaGreatDoor
