/- The document's own Same, Nat, Base. -/
import Derived.Test.YtigdflfhepelaaaGreatDoorPj
import Derived.Lay
import Derived.LaidOnce

namespace Go.Proofs.YtigdflfhepelaaaGreatDoor
open Go.RowKit
set_option linter.unusedVariables false
set_option maxHeartbeats 400000
set_option maxRecDepth 100000
attribute [local go_sem ↓] app_shut
attribute [local go_sem] run_append_tok

theorem rsame_calls (w : World) (v u : Value) (xs ys : List Nat) (h : U w v xs) (g : U w u ys) :
    Calls Tryz.prog 20 #[v, u] w fun e w' => e = .returned (.bool (decide (xs = ys))) ∧ ∃ n, w' = w.drewN n := by
  obtain ⟨A, c, rfl, ⟨hc, hm⟩, hx, hr⟩ := h
  obtain ⟨A2, c2, rfl, ⟨hc2, hm2⟩, hx2, hr2⟩ := g
  by_cases hl : xs.length = ys.length
  · have hl1 : (((xs.length : Nat) : Int) != ((ys.length : Nat) : Int)) = false := by rw [bne_eq_false_iff_eq, hl]
    have HL := Lib.hid hl
    clear hl
    go_enter Tryz.func20, Tryz.ntmps20
    go_wp2
    go_loopw [5] (fun n wr => ∃ k : Nat, k ≤ xs.length ∧ n = .int .i64 k ∧ Hid (∀ j, j < k → lb xs j = lb ys j) ∧ ∃ m, wr = w.drewN m) (fun n _ => xs.length - (intOf n).toNat)
    case atStart => exact ⟨0, Nat.zero_le _, rfl, fun j h => by omega, 0, rfl⟩
    case round =>
      obtain ⟨k, hk, rfl, hz, m, rfl⟩ := hrel
      by_cases hlt : k < xs.length
      · obtain ⟨ad, rfl, hb, hcell⟩ := hr (by omega)
        obtain ⟨ad2, rfl, hb2, hcell2⟩ := hr2 (by have := HL.out; omega)
        have hc1 := hcell k hlt
        have hc3 := hcell2 k (by have := HL.out; omega)
        have hk2 : ((k : Nat) : Int) < ys.length := by have := HL.out; omega
        by_cases he : lb xs k = lb ys k
        · have ht : ((((lb xs k : Nat)) : Int) != ((lb ys k : Nat) : Int)) = false := by rw [bne_eq_false_iff_eq, he]
          have HX := Lib.hid he
          clear he
          go_wp2
          go_quiet (fail)
          go_wp2
          go_roundw
          case rel => exact ⟨k + 1, by omega, by go_num, fun j h1 => by
            rcases Nat.lt_or_ge j k with h3 | h3
            · exact hz.out j h3
            · have : j = k := by omega
              subst this; exact HX.out, _, rfl⟩
          case measure => simp [intOf]; omega
        · have ht : ((((lb xs k : Nat)) : Int) != ((lb ys k : Nat) : Int)) = true := by rw [bne_iff_ne]; omega
          have HX := Lib.hid he
          clear he
          have hf : decide (xs = ys) = false := decide_eq_false fun h => HX.out (by rw [h])
          have HF := Lib.hid hf
          clear hf
          go_wp2
          go_quiet (fail)
          go_wp2
          go_ret
          exact ⟨by rw [HF.out]; rfl, _, World.drewN_drewN _ _ _⟩
      · have hf : decide (xs = ys) = true := decide_eq_true (ext_lb HL.out fun j hj => hz.out j (by omega))
        have HF := Lib.hid hf
        clear hf
        go_wp2
        go_ret
        exact ⟨by rw [HF.out]; rfl, _, rfl⟩
  · have hl1 : (((xs.length : Nat) : Int) != ((ys.length : Nat) : Int)) = true := by rw [bne_iff_ne]; omega
    have hf : decide (xs = ys) = false := decide_eq_false fun h => hl (by rw [h])
    have HF := Lib.hid hf
    clear hl hf
    go_enter Tryz.func20, Tryz.ntmps20
    go_wp2
    go_ret
    exact ⟨by rw [HF.out]; rfl, 0, rfl⟩
theorem rsame_B (w : World) (v u : Value) (n m : Nat) (h : Un w v n) (g : Un w u m) (b : Bool) (hb : decide (n = m) = b) :
    Calls Tryz.prog 20 #[v, u] w fun e w' => e = .returned (.bool b) ∧ Ext w w' := by
  refine (rsame_calls w v u _ _ h g).mono fun e w' ⟨he, k, hw⟩ => ⟨?_, by rw [hw]; exact ext_drewN w k⟩
  rw [he, ← hb]
  congr 2
  refine decide_eq_decide.2 ⟨fun e => ?_, fun e => by rw [e]⟩
  have := congrArg val e
  rwa [val_limbs, val_limbs] at this
theorem rsame_U (w : World) (v u : Value) (xs ys : List Nat) (h : U w v xs) (g : U w u ys) (b : Bool) (hb : decide (xs = ys) = b) :
    Calls Tryz.prog 20 #[v, u] w fun e w' => e = .returned (.bool b) ∧ Ext w w' :=
  (rsame_calls w v u xs ys h g).mono fun e w' ⟨he, k, hw⟩ => ⟨by rw [he, hb], by rw [hw]; exact ext_drewN w k⟩
theorem rbase_bad (w : World) (b : Int) (h : b < 2 ∨ 36 < b) :
    Calls Tryz.prog 40 #[.int .i64 b] w fun e w' => e = .returned (.bool false) ∧ w' = w := by
  rcases h with h | h
  · have h1 : ¬ (2 ≤ b) := by omega
    go_enter Tryz.func40, Tryz.ntmps40
    go_wp2
    go_ret
    exact ⟨by simp, rfl⟩
  · have h1 : 2 ≤ b := by omega
    have h3 : ¬ (b ≤ 36) := by omega
    go_enter Tryz.func40, Tryz.ntmps40
    go_wp2
    go_ret
    exact ⟨by simp, rfl⟩

theorem min_facts {L K m : Nat} (h : min L K = m) : (if (K : Int) < (L : Int) then (K : Int) else (L : Int)) = (m : Int) ∧ (if K < L then (K : Int) else (L : Int)) = (m : Int) ∧ min (L : Int) (K : Int) = (m : Int) ∧ m ≤ L ∧ m ≤ K := by
  refine ⟨?_, ?_, ?_, ?_, ?_⟩
  · split <;> omega
  · split <;> omega
  · omega
  · omega
  · omega
theorem take_min (xs : List Nat) (K m : Nat) (h : min xs.length K = m) : xs.take K = xs.take m := by
  rcases Nat.le_total xs.length K with h1 | h1
  · rw [List.take_of_length_le h1, List.take_of_length_le (by omega)]
  · rw [show m = K by omega]
theorem rnat_calls (w : World) (v : Value) (xs : List Nat) (h : U w v xs) (K m : Nat) (hK : K ≤ 1000000000000) (hm0 : min xs.length K = m) :
    Calls Tryz.prog 13 #[v, .int .i64 (K : Nat)] w fun e w' => (∃ u, e = .returned u ∧ Un w' u (val (xs.take K))) ∧ Ext w w' := by
  have h' := h
  obtain ⟨A, c, rfl, ⟨hc, hm⟩, hx, hr⟩ := h
  obtain ⟨hmin1, hmin2, hmin3, hml, hmK⟩ := min_facts hm0
  have hys := Lib.hid (take_min xs K m hm0)
  have hm12 : m ≤ 1000000000000 := Nat.le_trans hmK hK
  clear hm0
  go_enter Tryz.func13, Tryz.ntmps13
  go_wp2
  clear hmin1 hmin2 hmin3
  go_loop [5] (fun n => ∃ k : Nat, k ≤ m ∧ n = .int .i64 k ∧ Hid (∀ j, k ≤ j → j < m → lb xs j = 0)) (fun n => (intOf n).toNat)
  case atStart => exact ⟨m, Nat.le_refl _, rfl, fun j h1 h2 => by omega⟩
  case round =>
    obtain ⟨k, hk, rfl, hz⟩ := hrel
    have hkl : k ≤ xs.length := by omega
    have hfin : (0 < k → lb xs (k - 1) ≠ 0) → ∃ v' w', (Builtin.append_ #[22, 22] 22 #[.slice (some ⟨w.heap.size, 0, none⟩) 0 0, .slice A k c]).run Tryz.prog (w.alloc (.cells #[] 46)) = .ok v' w' ∧ Un w' v' (val (xs.take K)) ∧ Ext w w' := fun h2 => by
      have hB : Below w.heap.size w (w.alloc (.cells #[] 46)) := (Below.refl _ _).alloc (Nat.le_refl _) _
      have hown : Own (w.alloc (.cells #[] 46)) w.heap.size (.slice (some ⟨w.heap.size, 0, none⟩) 0 0) [] := World.ownsRow_lit w #[] 0 (Nat.le_refl _) (Nat.zero_le _) rfl
      have hu : U w (.slice A k c) (xs.take k) := h'.take hkl (by omega)
      have htl : (xs.take k).length = k := by simp; omega
      obtain ⟨v', w', hrun, ho, hg⟩ := run_append_U _ w.heap.size _ [] hown _ _ (hu.below hB) (by rw [htl]; simp; omega) hB.size
      refine ⟨v', w', hrun, ?_, hB.grown hg hB.size (fun j e => by cases e; exact Nat.le_refl _)⟩
      rw [List.nil_append] at ho
      have hU := ho.toU (fun x hx' => hx x (List.mem_of_mem_take hx')) (by rw [htl]; omega)
      have hyl : (xs.take m).length = m := by rw [List.length_take]; omega
      have hst := strip_eq (xs.take m) k (fun x hx' => hx x (List.mem_of_mem_take hx')) (by rw [hyl]; exact hk) (fun j h1 h2 => by rw [hyl] at h2; rw [lb_take h2]; exact hz.out j h1 h2) (fun h0 => by rw [lb_take (by omega)]; exact h2 h0)
      rw [List.take_take, Nat.min_eq_left hk] at hst
      rw [Un, hys.out, hst]
      exact hU
    rcases Nat.eq_zero_or_pos k with rfl | h0
    · obtain ⟨v', w', hrun, HU, HB⟩ := hfin (fun h => absurd h (by omega))
      obtain ⟨t1, t2, t3⟩ := app_tok hrun
      clear hfin hrun
      go_wp2
      go_ret
      exact ⟨⟨_, rfl, HU⟩, HB⟩
    · obtain ⟨ad, rfl, hb, hcell⟩ := hr (by omega)
      have hc1 := hcell (k - 1) (by omega)
      by_cases hx0 : lb xs (k - 1) = 0
      · have ht : ((((lb xs (k - 1) : Nat)) : Int) == 0) = true := by rw [hx0]; rfl
        have HX := Lib.hid hx0
        clear hx0 hfin
        go_wp2
        go_round
        case rel => exact ⟨k - 1, by omega, by go_num, fun j h1 h2 => by
          rcases Nat.lt_or_ge j k with h3 | h3
          · have : j = k - 1 := by omega
            subst this; exact HX.out
          · exact hz.out j h3 h2⟩
        case measure => simp [intOf]; omega
      · have ht : ((((lb xs (k - 1) : Nat)) : Int) == 0) = false := by rw [beq_eq_false_iff_ne]; omega
        obtain ⟨v', w', hrun, HU, HB⟩ := hfin (fun _ => hx0)
        obtain ⟨t1, t2, t3⟩ := app_tok hrun
        clear hfin hrun hx0
        go_wp2
        go_ret
        exact ⟨⟨_, rfl, HU⟩, HB⟩
end Go.Proofs.YtigdflfhepelaaaGreatDoor
/- The document's over: a natural over a small number. -/
namespace Go.Proofs.YtigdflfhepelaaaGreatDoor
open Go.RowKit
set_option linter.unusedVariables false
set_option maxHeartbeats 400000

/-- The limbs from k on are divided. -/
structure OvI (xs : List Nat) (m k : Nat) (o : List Nat) (rs : Nat) : Prop where
  len : o.length = xs.length
  lt : ∀ x ∈ o, x < 4294967296
  rest : rs < m
  val : val (xs.drop k) = m * val (o.drop k) + rs
theorem OvI.start (xs : List Nat) (m : Nat) (hm : 0 < m) : OvI xs m xs.length (List.replicate xs.length 0) 0 :=
  ⟨by simp, fun x hx => by rw [List.eq_of_mem_replicate hx]; decide, hm, by rw [List.drop_eq_nil_of_le (Nat.le_refl _), List.drop_eq_nil_of_le (by simp)]; simp [Proofs.YtigdflfhepelaaaGreatDoor.val]⟩
theorem OvI.step {xs : List Nat} {m j : Nat} {o : List Nat} {rs : Nat} (h : OvI xs m (j + 1) o rs) (hj : j < xs.length) (x n q r : Nat) (hx : lb xs j = x) (hxb : x < 4294967296) (hn : 4294967296 * rs + x = n) (hq : n / m = q) (hr : n % m = r) :
    q < 4294967296 ∧ OvI xs m j (o.set j q) r := by
  have hm : 0 < m := Nat.lt_of_le_of_lt (Nat.zero_le _) h.rest
  have hq1 : q < 4294967296 := by
    rw [← hq]
    refine Nat.div_lt_of_lt_mul ?_
    have h1 : 4294967296 * (rs + 1) ≤ 4294967296 * m := Nat.mul_le_mul_left _ h.rest
    rw [Nat.mul_comm m]
    omega
  refine ⟨hq1, by rw [List.length_set]; exact h.len, set_lt h.lt hq1, by rw [← hr]; exact Nat.mod_lt _ hm, ?_⟩
  have hjo : j < (o.set j q).length := by rw [List.length_set, h.len]; exact hj
  rw [val_cons_drop xs j hj, hx, h.val, val_cons_drop (o.set j q) j hjo, lb_set_same q (by rw [h.len]; exact hj), List.drop_set_of_lt (by omega)]
  have e : m * q + r = n := by rw [← hq, ← hr]; exact Nat.div_add_mod n m
  generalize Proofs.YtigdflfhepelaaaGreatDoor.val (o.drop (j + 1)) = V
  have e2 : m * (4294967296 * V) = 4294967296 * (m * V) := Nat.mul_left_comm _ _ _
  generalize m * V = mV at *
  first
    | (rw [Nat.mul_add m, e2]; omega)
    | (rw [Nat.add_comm q, Nat.mul_add m, e2]; omega)
theorem OvI.done {xs : List Nat} {m : Nat} {o : List Nat} {rs a : Nat} (h : OvI xs m 0 o rs) (ha : Proofs.YtigdflfhepelaaaGreatDoor.val xs = a) : Proofs.YtigdflfhepelaaaGreatDoor.val o = a / m ∧ rs = a % m := by
  have h1 := h.val
  rw [List.drop_zero, List.drop_zero, ha] at h1
  have hm : 0 < m := Nat.lt_of_le_of_lt (Nat.zero_le _) h.rest
  constructor
  · rw [h1, Nat.mul_add_div hm, Nat.div_eq_of_lt h.rest, Nat.add_zero]
  · rw [h1, Nat.mul_add_mod, Nat.mod_eq_of_lt h.rest]

set_option maxRecDepth 100000 in
set_option maxHeartbeats 4000000 in
theorem rover_calls (w : World) (v : Value) (a m : Nat) (hu : Un w v a) (hm1 : 1 ≤ m) (hm2 : m ≤ 1000000) (hl : (limbs a).length ≤ 100000) :
    Calls Tryz.prog 41 #[v, .int .i64 (m : Nat)] w fun e w' => (∃ u, e = .returned (.tuple #[u, .int .i64 ((a % m : Nat) : Int)]) ∧ Un w' u (a / m)) ∧ Ext w w' := by
  have hva := val_limbs a
  have h' : U w v (limbs a) := hu
  generalize limbs a = xs at *
  clear hu
  obtain ⟨A, c, rfl, ⟨hc, hmx⟩, hx, hr0⟩ := h'
  obtain ⟨L, hL⟩ : ∃ L, xs.length = L := ⟨_, rfl⟩
  have HL := Lib.hid hL
  have HI0 := Lib.hid (OvI.start xs m (by omega))
  rw [hL] at hc hmx hr0 hl HI0 ⊢
  have HDN := Lib.hid (fun o rs (h : OvI xs m 0 o rs) => h.done hva)
  clear hL hva
  obtain ⟨i0, hi, hz0, hz1, hz2⟩ := info_parts info32
  go_enter Tryz.func41, Tryz.ntmps41
  go_wp2_with (at_make; refine wpList_make_full _ rfl _ _ 22 rfl w.heap.size 46 i0 (.int .u32 0) 1 Tryz.underlying22 hi hz0 hz1 _ _ _ _ L rfl rfl (by omega) (by omega) (by rw [hz2]; omega) (by unfold maxLen; omega) (by simp) ?_; intro w1 hown hgrow)
  have ho0 := Own.zeros hown
  have hB0 : Ext w w1 := (Ext.refl w).grown hgrow (by simp) (fun _ h => by cases h)
  clear hown hgrow
  rw [List.length_replicate] at ho0
  clear hi hz0 hz1 hz2 i0
  go_loopw [8, 7] (fun t s wr => ∃ (k rs : Nat) (z : Int) (o : List Nat), k ≤ L ∧ t = .int .i64 z ∧ z = (k : Int) - 1 ∧ s = .int .u64 (rs : Nat) ∧ rs < m ∧ Hid (OvI xs m k o rs) ∧ Own wr w.heap.size (.slice (some ⟨w.heap.size, 0, none⟩) L L) o ∧ Ext w wr) (fun t _ _ => (intOf t + 1).toNat)
  case atStart => exact ⟨L, 0, _, _, Nat.le_refl _, rfl, rfl, rfl, by omega, HI0, ho0, hB0⟩
  case round =>
    clear HI0 ho0 hB0
    obtain ⟨k, rs, z, o, hk, rfl, hz, rfl, hrb, HO, hown, hE⟩ := hrel
    have hol : o.length = L := by rw [HO.out.len]; exact HL.out
    cases k with
    | zero =>
      obtain rfl : z = -1 := by omega
      clear hz
      obtain ⟨h1, h2⟩ := HDN.out o rs HO.out
      have hU := hown.toU HO.out.lt (by omega)
      have hrn := Lib.hid (rnat_calls wr _ o hU L L (by omega) (by omega))
      have htk : Hid (val (o.take L) = a / m) := by show _ = _; rw [List.take_of_length_le (by omega)]; exact h1
      have H2 := Lib.hid h2
      have hrw : IntKind.i64.wrap (rs : Int) = (rs : Int) := by rw [IntKind.wrap_i64]; omega
      have hrm : (rs : Int) % 18446744073709551616 = (rs : Int) := by omega
      clear h1 h2 HO HDN hU hown
      go_wp2_with (go_at_call 13; refine hrn.out.mono ?_; rintro e w4 ⟨⟨u, rfl, hu4⟩, hE4⟩; obtain ⟨A4, l4, c4, rfl⟩ := U.sl hu4)
      go_ret2
      rw [htk.out] at hu4
      exact ⟨⟨_, by rw [← H2.out]; first | done | rfl, hu4⟩, hE.below hE4⟩
    | succ j =>
      obtain rfl : z = (j : Int) := by omega
      clear hz
      obtain ⟨ad, rfl, hb, hcell⟩ := hr0 (by omega)
      have hc0 := (hE.cell (p := ad.add j) (by rw [addr_add_block]; exact hb)).trans (hcell j (by omega))
      have hxb := lb_lt hx j
      obtain ⟨x, hx0⟩ : ∃ x, lb xs j = x := ⟨_, rfl⟩
      rw [hx0] at hc0 hxb
      obtain ⟨y, hy⟩ : ∃ y, 4294967296 * rs + x = y := ⟨_, rfl⟩
      obtain ⟨q, hq⟩ : ∃ q, y / m = q := ⟨_, rfl⟩
      obtain ⟨r, hr⟩ : ∃ r, y % m = r := ⟨_, rfl⟩
      obtain ⟨hqb, hst⟩ := HO.out.step (by rw [HL.out]; omega) x y q r hx0 hxb hy hq hr
      have HST := Lib.hid hst
      have hrm := hst.rest
      have o1 : ((4294967296 * rs : Nat) : Int) + (x : Int) = (y : Int) := by omega
      have o2 : (rs : Int) * 4294967296 = ((4294967296 * rs : Nat) : Int) := by omega
      have o3 := u64_fit (show 4294967296 * rs < 18446744073709551616 by omega)
      have o4 := u64_mod (show 4294967296 * rs < 18446744073709551616 by omega)
      have o5 := u64_fit (show x < 18446744073709551616 by omega)
      have o6 := u64_mod (show x < 18446744073709551616 by omega)
      have o7 : (y : Int).tdiv (m : Int) = (q : Int) := by rw [Int.tdiv_eq_ediv_of_nonneg (Int.natCast_nonneg _), ← hq, Int.natCast_ediv]
      have o8 : (y : Int) / (m : Int) = (q : Int) := by rw [← hq, Int.natCast_ediv]
      have o9 := u64_fit (show y < 18446744073709551616 by omega)
      have o10 := u64_mod (show y < 18446744073709551616 by omega)
      have o11 := u64_fit (show q < 18446744073709551616 by omega)
      have o12 : (y : Int).tmod (m : Int) = (r : Int) := by rw [Int.tmod_eq_emod_of_nonneg (Int.natCast_nonneg _), ← hr, Int.natCast_emod]
      have o13 : (y : Int) % (m : Int) = (r : Int) := by rw [← hr, Int.natCast_emod]
      have o14 := u64_fit (show m < 18446744073709551616 by omega)
      have o15 := u64_mod (show m < 18446744073709551616 by omega)
      have o16 : IntKind.u32.wrap (q : Int) = (q : Int) := by rw [IntKind.wrap_u32]; omega
      have o17 : (q : Int) % 4294967296 = (q : Int) := by omega
      have o18 := u64_fit (show r < 18446744073709551616 by omega)
      have o19 : ¬ ((m : Int) = 0) := by omega
      have hj2 : j < L := by omega
      have hs := hown.set' j q
      have hfr := Own.frozen (c := L) (by rw [hol]; exact hown) j
      have hcl := Own.cell (c := L) (j := j) (by rw [hol]; exact hown) (by omega)
      have hE2 : Ext w (wr.setCell ⟨w.heap.size, j, none⟩ (.int .u32 (q : Nat))) := hE.setCell (by simp) _
      generalize 4294967296 * rs = y2 at *
      clear hx0 hxb hrb hq hr hy HO hcell hr0 hown hE hst
      go_wp2
      go_roundw
      case rel => exact ⟨j, r, _, _, by omega, rfl, rfl, rfl, hrm, HST, hs, hE2⟩
      case measure => simp [intOf]
end Go.Proofs.YtigdflfhepelaaaGreatDoor
/- The document's Step: a natural times a small number, and another one. -/
namespace Go.Proofs.YtigdflfhepelaaaGreatDoor
open Go.RowKit
set_option linter.unusedVariables false
set_option maxHeartbeats 400000
attribute [local go_sem ↓] app_shut
attribute [local go_sem] run_append_tok

/-- The first i limbs are done. -/
structure StI (xs : List Nat) (m d i : Nat) (o : List Nat) (rs : Nat) : Prop where
  len : o.length = i
  lt : ∀ x ∈ o, x < 4294967296
  val : Proofs.YtigdflfhepelaaaGreatDoor.val o + rs * 4294967296 ^ i = Proofs.YtigdflfhepelaaaGreatDoor.val (xs.take i) * m + d
theorem StI.start (xs : List Nat) (m d : Nat) : StI xs m d 0 [] d := ⟨rfl, by simp, by rw [List.take_zero]; simp [Proofs.YtigdflfhepelaaaGreatDoor.val]⟩
theorem StI.step {xs : List Nat} {m d i : Nat} {o : List Nat} {rs : Nat} (h : StI xs m d i o rs) (hi : i < xs.length) (x n q r : Nat) (hx : lb xs i = x) (hn : x * m + rs = n) (hq : n / 4294967296 = q) (hr : n % 4294967296 = r) :
    StI xs m d (i + 1) (o ++ [r]) q := by
  refine ⟨by rw [List.length_append, h.len]; rfl, snoc_lt h.lt (by rw [← hr]; exact Nat.mod_lt _ (by decide)), ?_⟩
  rw [val_snoc, h.len, val_take_succ xs i hi, hx, Nat.add_mul, Nat.pow_succ]
  have hv := h.val
  have e : 4294967296 * q + r = n := by rw [← hq, ← hr]; exact Nat.div_add_mod n 4294967296
  generalize 4294967296 ^ i = P at *
  have e1 : q * (P * 4294967296) = (4294967296 * q) * P := by rw [Nat.mul_comm P, ← Nat.mul_assoc, Nat.mul_comm q]
  have e2 : x * P * m = x * m * P := Nat.mul_right_comm _ _ _
  rw [e1, e2]
  have e3 : (4294967296 * q) * P + r * P = n * P := by rw [← Nat.add_mul, e]
  have e4 : n * P = x * m * P + rs * P := by rw [← hn, Nat.add_mul]
  omega
theorem StI.done {xs : List Nat} {m d L : Nat} {o : List Nat} {rs a : Nat} (h : StI xs m d L o rs) (hL : xs.length = L) (ha : Proofs.YtigdflfhepelaaaGreatDoor.val xs = a) : Proofs.YtigdflfhepelaaaGreatDoor.val (o ++ [rs]) = a * m + d := by
  rw [val_snoc, h.len, h.val, List.take_of_length_le (by omega), ha]

set_option maxRecDepth 100000 in
set_option maxHeartbeats 4000000 in
theorem rstep_calls (w : World) (v : Value) (a m d : Nat) (hu : Un w v a) (hm2 : m ≤ 1000000) (hd : d ≤ 1000000) (hl : (limbs a).length ≤ 100000) :
    Calls Tryz.prog 29 #[v, .int .i64 (m : Nat), .int .i64 (d : Nat)] w fun e w' => (∃ u, e = .returned u ∧ Un w' u (a * m + d)) ∧ Ext w w' := by
  have hva := val_limbs a
  have h' : U w v (limbs a) := hu
  generalize limbs a = xs at *
  clear hu
  obtain ⟨A, c, rfl, ⟨hc, hmx⟩, hx, hr0⟩ := h'
  obtain ⟨L, hL⟩ : ∃ L, xs.length = L := ⟨_, rfl⟩
  have HL := Lib.hid hL
  have HI0 := Lib.hid (StI.start xs m d)
  have HDN := Lib.hid (fun o rs (h : StI xs m d L o rs) => h.done hL hva)
  rw [hL] at hc hmx hr0 hl ⊢
  clear hL hva
  have hown0 : Own (w.alloc (.cells #[] 46)) w.heap.size (.slice (some ⟨w.heap.size, 0, none⟩) 0 0) [] := World.ownsRow_lit w #[] 0 (Nat.le_refl _) (Nat.zero_le _) rfl
  have hB0 : Ext w (w.alloc (.cells #[] 46)) := (Ext.refl w).alloc _
  have o1 := u64_fit (show d < 18446744073709551616 by omega)
  have o2 := u64_mod (show d < 18446744073709551616 by omega)
  go_enter Tryz.func29, Tryz.ntmps29
  go_wp2
  clear o1 o2
  go_loopw [9, 7, 8] (fun t s r wr => ∃ (i rs : Nat) (o : List Nat), i ≤ L ∧ t = .int .i64 (i : Nat) ∧ r = .int .u64 (rs : Nat) ∧ rs < 4294967296 ∧ Hid (StI xs m d i o rs) ∧ Own wr w.heap.size s o ∧ Ext w wr) (fun t _ _ _ => L - (intOf t).toNat)
  case atStart => exact ⟨0, d, [], Nat.zero_le _, rfl, rfl, by omega, HI0, hown0, hB0⟩
  case round =>
    clear HI0 hown0 hB0
    obtain ⟨i, rs, o, hi, rfl, rfl, hrb, HO, hown, hE⟩ := hrel
    have hol := HO.out.len
    have o0 : IntKind.u32.wrap (rs : Int) = (rs : Int) := by rw [IntKind.wrap_u32]; omega
    by_cases hlt : i < L
    · have hi1 : (i : Int) < (L : Int) := by omega
      have hi0 : (0 : Int) ≤ (i : Int) := by omega
      obtain ⟨ad, rfl, hb, hcell⟩ := hr0 (by omega)
      have hc0 := (hE.cell (p := ad.add i) (by rw [addr_add_block]; exact hb)).trans (hcell i (by omega))
      have hxb := lb_lt hx i
      obtain ⟨x, hx0⟩ : ∃ x, lb xs i = x := ⟨_, rfl⟩
      rw [hx0] at hc0 hxb
      obtain ⟨z, hz⟩ : ∃ z, x * m = z := ⟨_, rfl⟩
      have hzb : z ≤ 4294967296 * 1000000 := by rw [← hz]; exact Nat.mul_le_mul (by omega) hm2
      obtain ⟨y, hy⟩ : ∃ y, z + rs = y := ⟨_, rfl⟩
      obtain ⟨q, hq⟩ : ∃ q, y / 4294967296 = q := ⟨_, rfl⟩
      obtain ⟨r, hr⟩ : ∃ r, y % 4294967296 = r := ⟨_, rfl⟩
      have HST := Lib.hid (HO.out.step (by rw [HL.out]; omega) x y q r hx0 (by rw [hz]; exact hy) hq hr)
      have hqb : q < 4294967296 := by omega
      have o1 : (x : Int) * (m : Int) = (z : Int) := by rw [← hz]; exact (Int.natCast_mul x m).symm
      have o2 : (z : Int) + (rs : Int) = (y : Int) := by omega
      have o3 := u64_fit (show z < 18446744073709551616 by omega)
      have o4 := u64_mod (show z < 18446744073709551616 by omega)
      have o5 := u64_fit (show x < 18446744073709551616 by omega)
      have o6 := u64_mod (show x < 18446744073709551616 by omega)
      have o7 := u64_fit (show m < 18446744073709551616 by omega)
      have o8 := u64_mod (show m < 18446744073709551616 by omega)
      have o9 := u64_fit (show y < 18446744073709551616 by omega)
      have o10 := u64_mod (show y < 18446744073709551616 by omega)
      have o11 : IntKind.u32.wrap (y : Int) = (r : Int) := by rw [IntKind.wrap_u32, ← hr, Int.natCast_emod]; rfl
      have o12 : (y : Int) % 4294967296 = (r : Int) := by rw [← hr, Int.natCast_emod]; rfl
      have o13 : (y : Int) / 4294967296 = (q : Int) := by rw [← hq, Int.natCast_ediv]; rfl
      have o14 := u64_fit (show q < 18446744073709551616 by omega)
      obtain ⟨v', w', hrun, hown', hB'⟩ := push_own (Nat.le_refl _) hE hown (r : Int) r rfl (by omega) (by omega)
      obtain ⟨t1, t2, t3⟩ := app_tok hrun
      clear hx0 hxb hz hy hq hr HO hcell hr0 hown hE hrun
      go_wp2
      go_roundw
      case rel => exact ⟨i + 1, q, _, by omega, by go_num, rfl, hqb, HST, hown', hB'⟩
      case measure => simp [intOf]; omega
    · obtain rfl : i = L := by omega
      have hdn := HDN.out o rs HO.out
      obtain ⟨v', w', hrun, hown', hB'⟩ := push_own (Nat.le_refl _) hE hown (rs : Int) rs rfl hrb (by omega)
      obtain ⟨t1, t2, t3⟩ := app_tok hrun
      have hl2 : (o ++ [rs]).length = i + 1 := by rw [List.length_append, hol]; rfl
      obtain ⟨g, c2, hsh⟩ := hown'.shape (by rw [hl2]; omega)
      rw [hl2] at hsh
      subst hsh
      have hU := hown'.toU (snoc_lt HO.out.lt hrb) (by omega)
      have hrn := Lib.hid (rnat_calls w' _ _ hU (i + 1) (i + 1) (by omega) (by omega))
      have htk : Hid (val ((o ++ [rs]).take (i + 1)) = a * m + d) := by show _ = _; rw [List.take_of_length_le (by omega)]; exact hdn
      have o3 := u64_fit (show rs < 18446744073709551616 by omega)
      have o4 : (rs : Int) % 4294967296 = (rs : Int) := by omega
      clear hdn HO HDN hU hown hown' hrun hl2 hE
      go_wp2_with (go_at_call 13; refine hrn.out.mono ?_; rintro e w4 ⟨⟨u, rfl, hu4⟩, hE4⟩; obtain ⟨A4, l4, c4, rfl⟩ := U.sl hu4)
      go_ret
      rw [htk.out] at hu4
      exact ⟨⟨_, rfl, hu4⟩, (show Ext w w' from hB').below hE4⟩
end Go.Proofs.YtigdflfhepelaaaGreatDoor
/- The document's Read. -/
namespace Go.Proofs.YtigdflfhepelaaaGreatDoor
open Go.RowKit
set_option linter.unusedVariables false
set_option maxHeartbeats 400000

/-- What the document's Read answers. -/
def RdB (w w' : World) (e : Ending) (S : ByteArray) (b : Nat) : Prop :=
  Ext w w' ∧ ((∃ i, i < S.size ∧ (∀ j, j < i → lb (worL S) j < b) ∧ b ≤ lb (worL S) i ∧ e = .returned (.tuple #[.slice none 0 0, .int .i64 (i : Nat), .int .i64 50])) ∨
  (S.size = 0 ∧ e = .returned (.tuple #[.slice none 0 0, .int .i64 0, .int .i64 50])) ∨
  (S.size ≠ 0 ∧ (∀ d ∈ worL S, d < b) ∧ ∃ u, e = .returned (.tuple #[u, .int .i64 0, .int .i64 0]) ∧ Un w' u (bval b (worL S))))
theorem Un_none (w : World) (A : Option Addr) (c : Nat) : Un w (.slice A 0 c) 0 := by rw [Un, limbs_zero]; exact U.nil_ _ _ _

set_option maxRecDepth 100000 in
set_option maxHeartbeats 4000000 in
theorem rread_calls (w : World) (S : ByteArray) (b : Nat) (h2 : 2 ≤ b) (h36 : b ≤ 36) (hl : S.size ≤ 19000) (hM : (limbs (b ^ S.size)).length ≤ 398) :
    Calls Tryz.prog 19 #[.string S, .int .i64 (b : Nat)] w fun e w' => RdB w w' e S b := by
  have hat := Lib.hid (worL_at S)
  have hws := Lib.hid (worL_mem S b)
  have hwl := Lib.hid (worL_len S)
  have hie := isEmpty_size S
  obtain ⟨L, hL⟩ : ∃ L, S.size = L := ⟨_, rfl⟩
  have HL := Lib.hid hL
  rw [hL] at hl hM hie
  unfold RdB
  by_cases h0 : L = 0
  · have hie2 : S.toList.isEmpty = true := by rw [hie, h0]; rfl
    have HL0 : Hid (S.size = 0) := by show _ = _; rw [HL.out, h0]
    clear hie h0 hL
    go_enter Tryz.func19, Tryz.ntmps19
    go_wp2_with (go_at_call 40; refine (rbase_calls _ b h2 h36).mono ?_; rintro e w3 ⟨rfl, rfl⟩)
    go_ret3
    exact ⟨Ext.refl _, .inr (.inl ⟨HL0.out, rfl⟩)⟩
  · have hie2 : S.toList.isEmpty = false := by rw [hie]; exact decide_eq_false h0
    have HL0 : Hid (S.size ≠ 0) := by show _ ≠ _; rw [HL.out]; exact h0
    have hE0 := (Ext.refl w).alloc (.cells #[] 46)
    have hz0 := Un_none (w.alloc (.cells #[] 46)) (some ⟨w.heap.size, 0, none⟩) 0
    have hb0 : Hid (0 = bval b ((worL S).take 0)) := by rw [List.take_zero]; rfl
    clear hie
    go_enter Tryz.func19, Tryz.ntmps19
    go_wp2_with (go_at_call 40; refine (rbase_calls _ b h2 h36).mono ?_; rintro e w3 ⟨rfl, rfl⟩)
    go_loopw [8, 7] (fun t s wr => ∃ i a : Nat, i ≤ L ∧ t = .int .i64 (i : Nat) ∧ Hid (∀ j, j < i → lb (worL S) j < b) ∧ Hid (a = bval b ((worL S).take i)) ∧ Un wr s a ∧ Ext w3 wr) (fun t _ _ => L - (intOf t).toNat)
    case atStart => exact ⟨0, 0, Nat.zero_le _, rfl, fun j hj => by omega, hb0, hz0, hE0⟩
    case round =>
      clear hb0 hz0 hE0
      obtain ⟨i, a, hi, rfl, HI, HA, hua, hE⟩ := hrel
      obtain ⟨A2, l2, c2, rfl⟩ := U.sl hua
      by_cases hlt : i < L
      · have hi1 : (i : Int) < (L : Int) := by omega
        have hi2 : i < S.size := by omega
        have h1 := hat.out i hi2
        obtain ⟨c, hc⟩ : ∃ c, (S[i]'hi2).toNat = c := ⟨_, rfl⟩
        have hc256 : c < 256 := by rw [← hc]; exact UInt8.toNat_lt _
        rw [hc] at h1
        obtain ⟨v, hv⟩ : ∃ v, worB c = v := ⟨_, rfl⟩
        have hv99 := worB_le c
        rw [hv] at h1 hv99
        by_cases hge : b ≤ v
        · have hge1 : (b : Int) ≤ (v : Int) := by omega
          have HE : Hid (b ≤ lb (worL S) i) := by rw [h1]; exact hge
          clear h1
          go_wp2_with (go_at_call 24; refine (rdigit_calls _ c hc256).mono ?_; rintro e w5 ⟨rfl, rfl⟩; rw [hv])
          go_ret3
          exact ⟨hE, .inl ⟨i, by rw [HL.out]; exact hlt, HI.out, HE.out, rfl⟩⟩
        · have hge1 : ¬ ((b : Int) ≤ (v : Int)) := by omega
          have HN : Hid (∀ j, j < i + 1 → lb (worL S) j < b) := fun j hj => by
            rcases Nat.lt_or_ge j i with h | h
            · exact HI.out j h
            · obtain rfl : j = i := by omega
              rw [h1]; omega
          have hpush := chunk_push b (worL S) i (by rw [hwl.out]; exact hi2)
          rw [h1, ← HA.out] at hpush
          have HP : Hid (a * b + v = bval b ((worL S).take (i + 1))) := hpush.symm
          have hla : (limbs a).length ≤ 100000 := by
            have h5 : ∀ d ∈ (worL S).take i, d < b := by
              intro d hd
              obtain ⟨j, hj, rfl⟩ := List.getElem_of_mem hd
              have hji : j < i := by rw [List.length_take] at hj; omega
              have h6 := HI.out j hji
              have h7 : j < (worL S).length := by rw [hwl.out]; omega
              unfold lb at h6
              simp only [List.getElem?_eq_getElem h7, Option.getD_some] at h6
              rw [List.getElem_take]
              exact h6
            have h6 := bval_lt b _ h5
            rw [← HA.out] at h6
            exact Nat.le_trans (bv_len h2 h6 (by rw [List.length_take]; omega) hM) (by omega)
          have hst := Lib.hid (fun W h => rstep_calls W (.slice A2 l2 c2) a b v h (by omega) (by omega) hla)
          clear h1 HI hpush HA
          go_wp2_with (first
            | (go_at_call 24; refine (rdigit_calls _ c hc256).mono ?_; rintro e w5 ⟨rfl, rfl⟩; rw [hv])
            | (go_at_call 29; refine (hst.out _ hua).mono ?_; rintro e w6 ⟨⟨u, rfl, hu6⟩, hE6⟩; obtain ⟨A6, l6, c6, rfl⟩ := U.sl hu6))
          go_roundw
          case rel => exact ⟨i + 1, a * b + v, by omega, by go_num, HN, HP, hu6, hE.below hE6⟩
          case measure => simp [intOf]; omega
      · obtain rfl : i = L := by omega
        have HDA := Lib.hid (hws.out (fun j hj => HI.out j (by rw [← HL.out]; exact hj)))
        have HU : Hid (Un wr (.slice A2 l2 c2) (bval b (worL S))) := by
          have h5 := HA.out
          rw [List.take_of_length_le (by rw [hwl.out, HL.out]; exact Nat.le_refl _)] at h5
          show Un _ _ _
          rw [← h5]
          exact hua
        clear HI HA hua
        go_wp2
        go_ret3
        exact ⟨hE, .inr (.inr ⟨HL0.out, HDA.out, _, rfl, HU.out⟩)⟩
theorem rread_bad (w : World) (S : ByteArray) (b : Int) (h : b < 2 ∨ 36 < b) :
    Calls Tryz.prog 19 #[.string S, .int .i64 b] w fun e w' => e = .returned (.tuple #[.slice none 0 0, .int .i64 0, .int .i64 1]) ∧ w' = w := by
  have hb := Lib.hid (fun W => rbase_bad W b h)
  clear h
  go_enter Tryz.func19, Tryz.ntmps19
  go_wp2_with (go_at_call 40; refine (hb.out _).mono ?_; rintro e w3 ⟨rfl, rfl⟩)
  go_ret3
  exact ⟨rfl, rfl⟩
end Go.Proofs.YtigdflfhepelaaaGreatDoor
/- Rows of bytes that grow; what is kept meanwhile. -/
namespace Go.Proofs.YtigdflfhepelaaaGreatDoor
open Go.RowKit
set_option linter.unusedVariables false
set_option maxHeartbeats 400000

/-- A value is a byte. -/
def I8 (u : Value) : Prop := ∃ x : Nat, u = .int .u8 (x : Nat)
theorem I8.one {u : Value} (h : I8 u) : u.oneCell' = true := by obtain ⟨x, rfl⟩ := h; rfl
/-- Every old cell that holds no byte is kept, and all that is older than B. -/
structure Key (B : Nat) (w w' : World) : Prop where
  below : Below B w w'
  cell : ∀ p v, w.cell? p = some v → ¬ I8 v → w'.cell? p = some v
theorem Key.refl (B : Nat) (w : World) : Key B w w := ⟨Below.refl _ _, fun _ _ h _ => h⟩
theorem Key.trans {B : Nat} {a b c : World} (h : Key B a b) (k : Key B b c) : Key B a c := ⟨h.below.trans k.below, fun p v h1 h2 => k.cell p v (h.cell p v h1 h2) h2⟩
theorem Key.ofExt {B : Nat} {a b : World} (hB : B ≤ a.heap.size) (h : Ext a b) : Key B a b := ⟨Below.mono h hB, fun p v h1 _ => (h.cell (cell_lt h1)).trans h1⟩
theorem Key.size {B : Nat} {a b : World} (h : Key B a b) : a.heap.size ≤ b.heap.size := h.below.size
theorem U.key {B : Nat} {w w' : World} {v : Value} {xs : List Nat} (h : U w v xs) (k : Key B w w') : U w' v xs := by
  obtain ⟨A, c, rfl, hc, hx, hr⟩ := h
  refine ⟨A, c, rfl, hc, hx, fun h0 => ?_⟩
  obtain ⟨ad, hA, hb, hcell⟩ := hr h0
  exact ⟨ad, hA, Nat.lt_of_lt_of_le hb k.size, fun j hj => k.cell _ _ (hcell j hj) (by rintro ⟨x, e⟩; cases e)⟩
theorem Un.key {B : Nat} {w w' : World} {v : Value} {n : Nat} (h : Un w v n) (k : Key B w w') : Un w' v n := U.key h k

/-- A row of bytes in block g that may have room. -/
structure Ry (B : Nat) (w : World) (g n cap : Nat) (es : List Value) : Prop where
  lo : B ≤ g
  caps : n ≤ cap ∧ cap ≤ maxLen
  len : es.length = n
  row : ∃ cur : Array Value, w.heap[g]? = some (.cells cur 5 (0, 0)) ∧ cur.size = cap ∧ cur.toList.take n = es ∧ ∀ u ∈ cur.toList, I8 u
theorem Ry.lt {B : Nat} {w : World} {g n cap : Nat} {es : List Value} (h : Ry B w g n cap es) : g < w.heap.size := by
  obtain ⟨cur, h1, _⟩ := h.row
  exact (Array.getElem?_eq_some_iff.1 h1).1
theorem Ry.cell {B : Nat} {w : World} {g n cap : Nat} {es : List Value} (h : Ry B w g n cap es) {j : Nat} (hj : j < n) : w.cell? ⟨g, j, none⟩ = es[j]? := by
  obtain ⟨cur, h1, h2, h3, h4⟩ := h.row
  rw [cell_of_row w g j _ _ _ h1, ← h3, List.getElem?_take_of_lt hj, Array.getElem?_toList]
theorem Ry.of {B : Nat} {w w' : World} {g n cap : Nat} {es : List Value} (h : Ry B w g n cap es) (e : w'.heap[g]? = w.heap[g]?) : Ry B w' g n cap es := by
  obtain ⟨cur, h1, h2⟩ := h.row
  exact ⟨h.lo, h.caps, h.len, cur, e.trans h1, h2⟩
theorem Ry.ext {B : Nat} {w w' : World} {g n cap : Nat} {es : List Value} (h : Ry B w g n cap es) (k : Ext w w') : Ry B w' g n cap es := h.of (k.block g h.lt)
theorem Ry.i8 {B : Nat} {w : World} {g n cap : Nat} {es : List Value} (h : Ry B w g n cap es) {p : Addr} (hp : p.block = g) {v : Value} (hv : w.cell? p = some v) : I8 v := by
  obtain ⟨cur, h1, h2, h3, h4⟩ := h.row
  unfold World.cell? at hv
  rw [hp, h1] at hv
  simp only at hv
  split at hv
  · cases hv
  · exact h4 v (Array.mem_toList_iff.2 (Array.mem_of_getElem? hv))
theorem Ry.new (B : Nat) (w : World) (hB : B ≤ w.heap.size) : Ry B (w.alloc (.cells #[] 5)) w.heap.size 0 0 [] :=
  ⟨hB, ⟨Nat.le_refl _, by unfold maxLen; omega⟩, rfl, #[], heap_alloc_new w _, rfl, rfl, fun u hu => by simp at hu⟩
/-- One byte more. -/
theorem Ry.push {B : Nat} {w : World} {g n cap : Nat} {es : List Value} (h : Ry B w g n cap es) (e : Value) (he : I8 e) (a : Addr) (ha : w.cell? a = some e) (hn : n + 1 ≤ 1000000) (hB : B ≤ w.heap.size) :
    ∃ g' cap' w', (Builtin.append_ #[49, 49] 49 #[.slice (some ⟨g, 0, none⟩) n cap, .slice (some a) 1 1]).run Tryz.prog w = .ok (.slice (some ⟨g', 0, none⟩) (n + 1) cap') w' ∧ Ry B w' g' (n + 1) cap' (es ++ [e]) ∧
      w.grownBy w' (some g) ∧ (g' = g ∨ g' = w.heap.size) ∧ Key B w w' := by
  obtain ⟨i0, hi, hz, hs, hb⟩ := infoU8_parts
  obtain ⟨cur, h1, h2, h3, h4⟩ := id h.row
  have hnews : ∀ j u, [e][j]? = some u → w.cell? (a.add j) = some u := by
    intro j u hj
    have h0 := (List.getElem?_eq_some_iff.1 hj).1
    have : j = 0 := by simpa using h0
    subst this
    simp at hj
    subst hj
    rw [show a.add 0 = a by simp [Addr.add]]
    exact ha
  by_cases hroom : n + 1 ≤ cap
  · have hr := run_append_room (P := Tryz.prog) w 49 49 5 i0 Tryz.underlying49 hi g n cap cur h1 a 1 1 [e] (by rw [hs]; rfl) hnews (by intro u hu; simp at hu; subst hu; exact he.one) hroom (by rw [hs, h2]; simpa using hroom)
    rw [hs, Nat.mul_one] at hr
    have hhe : (w.setRow g (cur.toList.take n ++ [e] ++ cur.toList.drop (n + [e].length)).toArray).heap[g]? = some (.cells (cur.toList.take n ++ [e] ++ cur.toList.drop (n + [e].length)).toArray 5 (0, 0)) := setRow_heap w g cur _ 5 _ h1
    have hot : ∀ k, k ≠ g → (w.setRow g (cur.toList.take n ++ [e] ++ cur.toList.drop (n + [e].length)).toArray).heap[k]? = w.heap[k]? := fun k hk => setRow_other w g k _ hk
    have hsz : (w.setRow g (cur.toList.take n ++ [e] ++ cur.toList.drop (n + [e].length)).toArray).heap.size = w.heap.size := by simp
    have hgb : w.grownBy (w.setRow g (cur.toList.take n ++ [e] ++ cur.toList.drop (n + [e].length)).toArray) (some g) := ⟨rfl, rfl, rfl, by rw [hsz]; exact Nat.le_refl _, fun k _ hk => hot k (fun e => hk (by rw [e]))⟩
    refine ⟨g, cap, _, hr, ⟨h.lo, ⟨hroom, h.caps.2⟩, by rw [List.length_append, h.len]; rfl, _, hhe, ?_, ?_, ?_⟩, hgb, .inl rfl, ⟨⟨rfl, rfl, rfl, by rw [hsz]; exact Nat.le_refl _, fun k hk => hot k (by have := h.lo; omega)⟩, ?_⟩⟩
    · simp only [List.size_toArray, List.length_append, List.length_take, List.length_drop, Array.length_toList, List.length_singleton]
      omega
    · have hl : (cur.toList.take n ++ [e]).length = n + 1 := by rw [List.length_append, h3, h.len]; rfl
      show List.take (n + 1) (cur.toList.take n ++ [e] ++ cur.toList.drop (n + [e].length)) = _
      rw [List.take_left' hl, h3]
    · intro u hu
      simp only [List.mem_append, List.mem_singleton] at hu
      rcases hu with (hu | hu) | hu
      · exact h4 u (List.mem_of_mem_take hu)
      · subst hu; exact he
      · exact h4 u (List.mem_of_mem_drop hu)
    · intro p v hv hns
      by_cases hp : p.block = g
      · exact absurd (h.i8 hp hv) hns
      · rw [← hv]
        unfold World.cell?
        rw [hot _ hp]
  · have holds : ∀ j v, es[j]? = some v → w.cell? ((⟨g, 0, none⟩ : Addr).add j) = some v := by
      intro j v hj
      have h0 := (List.getElem?_eq_some_iff.1 hj).1
      rw [h.len] at h0
      rw [addr_zero_add, h.cell h0, hj]
    have hr := run_append_grow (P := Tryz.prog) w 49 49 5 i0 (.int .u8 0) Tryz.underlying49 hi hz ⟨g, 0, none⟩ n cap es (by rw [h.len, hs, Nat.mul_one]) holds a 1 1 [e] (by rw [hs]; rfl) hnews (by omega) (by omega) (growslice_fits (by omega) (by rw [hb]; omega))
    have hge := grownCap_ge w (n + 1) cap 5
    have hcm : grownCap w (n + 1) cap 5 ≤ maxLen := grownCap_le_maxLen w (n + 1) cap 5 (by unfold maxLen; omega)
    generalize grownCap w (n + 1) cap 5 = G at *
    have hE : Ext w (w.drew.alloc (.cells (es.toArray ++ [e].toArray ++ Builtin.zeroCells (Value.int .u8 0).cells (G - (n + 1))) 5)) := ((Ext.refl w).drew).alloc _
    refine ⟨w.heap.size, G, _, hr, ⟨hB, ⟨hge, hcm⟩, by rw [List.length_append, h.len]; rfl, _, heap_alloc_new w.drew _, ?_, ?_, ?_⟩, ⟨rfl, rfl, rfl, hE.size, fun k hk _ => hE.block k hk⟩, .inr rfl, Key.ofExt hB hE⟩
    · simp only [Array.size_append, List.size_toArray, size_zeroCells, List.length_singleton, h.len]
      show n + 1 + (G - (n + 1)) * 1 = G
      omega
    · have hl : (es ++ [e]).length = n + 1 := by rw [List.length_append, h.len]; rfl
      simp only [Array.toList_append]
      exact List.take_left' hl
    · intro u hu
      simp only [Array.toList_append, List.mem_append, List.mem_singleton] at hu
      rcases hu with (hu | hu) | hu
      · rw [← h3] at hu; exact h4 u (List.mem_of_mem_take hu)
      · subst hu; exact he
      · have : u = Value.int .u8 0 := by
          simp [Builtin.zeroCells, Value.cells] at hu
          obtain ⟨j, _, h2⟩ := hu
          rw [Nat.mod_one] at h2
          exact h2.symm
        subst this
        exact ⟨0, rfl⟩
theorem Ry.frozen {B : Nat} {w : World} {g n cap : Nat} {es : List Value} (h : Ry B w g n cap es) (j : Nat) : w.frozen? ⟨g, j, none⟩ = false := by
  obtain ⟨cur, h1, _⟩ := h.row
  exact frozen_of_row w g j _ _ h1
theorem Ry.set_ {B : Nat} {w : World} {g n cap : Nat} {es : List Value} (h : Ry B w g n cap es) (j x : Nat) : Ry B (w.setCell ⟨g, j, none⟩ (.int .u8 (x : Nat))) g n cap (es.set j (.int .u8 (x : Nat))) := by
  obtain ⟨cur, h1, h2, h3, h4⟩ := h.row
  refine ⟨h.lo, h.caps, by rw [List.length_set]; exact h.len, _, heap_setCell_same w g j _ _ (.int .u8 (x : Nat)) h1, ?_, ?_, ?_⟩
  · simpa using h2
  · rw [← h3, Array.toList_setIfInBounds, List.take_set]
  · intro u hu
    rw [Array.toList_setIfInBounds] at hu
    rcases List.mem_or_eq_of_mem_set hu with h5 | h5
    · exact h4 u h5
    · subst h5; exact ⟨x, rfl⟩
theorem Ry.but {B : Nat} {w : World} {g n cap : Nat} {es : List Value} (h : Ry B w g n cap es) (j : Nat) (v : Value) : Below B w (w.setCell ⟨g, j, none⟩ v) :=
  ⟨rfl, rfl, rfl, by simp [World.setCell], fun k hk => heap_setCell_other w ⟨g, j, none⟩ k v (by have := h.lo; show k ≠ g; omega)⟩
/-- The bytes of digits in such a row. -/
theorem ryText {B : Nat} {w : World} {g n cap : Nat} (ds : List Nat) (hd : ∀ d ∈ ds, d < 36) (hl : ds.length = n) (h : Ry B w g n cap (Bv (ds.map digB))) :
    (convert 49 9 (.slice (some ⟨g, 0, none⟩) n cap)).run Tryz.prog w = .ok (.string (strD ds)) w := by
  have := run_convert_bytes_back (P := Tryz.prog) w 49 9 5 ⟨g, 0, none⟩ cap (byteL ds) Tryz.underlying49 Tryz.underlying5 Tryz.underlying9 (fun j hj => by
    have hj2 : j < ds.length := by rwa [byteL_len] at hj
    rw [addr_zero_add, h.cell (j := j) (by omega), Bv_get _ (by rw [List.length_map]; exact hj2)]
    have e1 : ((byteL ds)[j]'hj).toNat = digB (ds[j]'hj2) := by
      simp only [byteL, List.getElem_map]
      exact digB_nat (hd _ (List.getElem_mem hj2))
    rw [e1]
    congr 2
    unfold lb
    simp [hj2])
  rw [byteL_len, hl] at this
  exact this
end Go.Proofs.YtigdflfhepelaaaGreatDoor
/- The document's Text and Count. -/
namespace Go.Proofs.YtigdflfhepelaaaGreatDoor
open Go.RowKit
set_option linter.unusedVariables false
set_option maxHeartbeats 400000
attribute [local go_sem ↓] app_shut
attribute [local go_sem] run_append_tok

/-- The digits so far, the lowest first. -/
structure TxI (b a0 a : Nat) (ds : List Nat) : Prop where
  spl : nd b a0 = nd b a ++ ds.reverse
  lt : ∀ d ∈ ds, d < b
theorem TxI.start (b a0 : Nat) : TxI b a0 a0 [] := ⟨by simp, by simp⟩
theorem TxI.step {b a0 a : Nat} {ds : List Nat} (h : TxI b a0 a ds) (hb : 2 ≤ b) (ha : a ≠ 0) (q r : Nat) (hq : a / b = q) (hr : a % b = r) : r < b ∧ ds.length < (nd b a0).length ∧ TxI b a0 q (ds ++ [r]) := by
  have hrb : r < b := by rw [← hr]; exact Nat.mod_lt _ (by omega)
  have e := nd_pos ha hb
  refine ⟨hrb, ?_, ?_, fun d hd => ?_⟩
  · rw [h.spl, List.length_append, List.length_reverse, e, List.length_append]
    simp
  · rw [h.spl, e, hq, hr, List.reverse_append]
    simp
  · rcases List.mem_append.1 hd with h1 | h1
    · exact h.lt d h1
    · simp at h1; omega
/-- The row turned round, i bytes from both ends. -/
structure RvI (l : List Nat) (i : Nat) (o : List Nat) : Prop where
  len : o.length = l.length
  at_ : ∀ j, j < l.length → lb o j = if j < i ∨ l.length - 1 - j < i then lb l (l.length - 1 - j) else lb l j
theorem RvI.start (l : List Nat) : RvI l 0 l := ⟨rfl, fun j hj => by rw [if_neg (by omega)]⟩
theorem RvI.step {l : List Nat} {i : Nat} {o : List Nat} (h : RvI l i o) (hi : i < l.length / 2) (x y n : Nat) (hn : l.length = n) (hx : lb o i = x) (hy : lb o (n - 1 - i) = y) : RvI l (i + 1) ((o.set i y).set (n - 1 - i) x) := by
  subst hn
  have h1 := h.at_ i (by omega)
  have h2 := h.at_ (l.length - 1 - i) (by omega)
  rw [if_neg (by omega), hx] at h1
  rw [if_neg (by omega), hy] at h2
  refine ⟨by rw [List.length_set, List.length_set]; exact h.len, fun j hj => ?_⟩
  rw [lb_set _ _ _ _ (by rw [List.length_set, h.len]; omega), lb_set _ _ _ _ (by rw [h.len]; omega)]
  by_cases e1 : l.length - 1 - i = j
  · rw [if_pos e1, if_pos (by omega), h1]
    congr 1; omega
  · rw [if_neg e1]
    by_cases e2 : i = j
    · rw [if_pos e2, if_pos (by omega), h2]
      congr 1; omega
    · rw [if_neg e2, h.at_ j hj]
      by_cases c : j < i ∨ l.length - 1 - j < i
      · rw [if_pos c, if_pos (by omega)]
      · rw [if_neg c, if_neg (by omega)]
theorem RvI.done {l : List Nat} {i : Nat} {o : List Nat} (h : RvI l i o) (hi : l.length / 2 = i) : o = l.reverse := by
  refine ext_lb (by rw [h.len, List.length_reverse]) fun j hj => ?_
  have hj2 : j < l.length := by rw [← h.len]; exact hj
  have e : lb l.reverse j = lb l (l.length - 1 - j) := by
    unfold lb
    rw [List.getElem?_reverse hj2]
  rw [h.at_ j hj2, e]
  by_cases c : j < i ∨ l.length - 1 - j < i
  · rw [if_pos c]
  · rw [if_neg c]
    congr 1; omega

set_option maxRecDepth 100000 in
set_option maxHeartbeats 4000000 in
theorem rtext_calls (w : World) (va : Value) (a0 b : Nat) (hu : Un w va a0) (hal : (limbs a0).length ≤ 398) (h2 : 2 ≤ b) (h36 : b ≤ 36) :
    Calls Tryz.prog 15 #[va, .int .i64 (b : Nat)] w fun e w' => e = .returned (.tuple #[.string (strD (dt b a0)), .int .i64 0]) ∧ Ext w w' := by
  obtain ⟨A, l, c, rfl⟩ := U.sl hu
  have hNl : Hid ((nd b a0).length ≤ 16 * 31 * 1024) := by
    obtain ⟨I, hI10, haI, _⟩ := least_kp b 1 a0 h2 (Nat.le_refl _) hal
    have h1 := pow_nd_le b h2 a0 (16 * 1 * 2 ^ I) haI
    have h3 : 16 * 1 * 2 ^ I ≤ 16 * 31 * 2 ^ 10 := Nat.mul_le_mul (by decide) (Nat.pow_le_pow_right (by decide) hI10)
    have h4 : (2 : Nat) ^ 10 = 1024 := rfl
    rw [h4] at h3
    exact Nat.le_trans h1 h3
  have HT0 := Lib.hid (TxI.start b a0)
  have hE0 := (Ext.refl w).alloc (.cells #[] 5)
  have hR0 := Ry.new w.heap.size w (Nat.le_refl _)
  have hu0 := Un.alloc hu (.cells #[] 5)
  obtain ⟨N, hN⟩ : ∃ N, (nd b a0).length = N := ⟨_, rfl⟩
  rw [hN] at hNl
  have HN := Lib.hid hN
  have HNl := hNl
  have hN5 := hNl.out
  clear hN hNl
  go_enter Tryz.func15, Tryz.ntmps15
  go_wp2_with (go_at_call 40; refine (rbase_calls _ b h2 h36).mono ?_; rintro e w3 ⟨rfl, rfl⟩)
  go_loopw [0, 6] (fun t s wr => ∃ (a : Nat) (ds : List Nat) (g n cap : Nat), Un wr t a ∧ a ≤ a0 ∧ s = .slice (some ⟨g, 0, none⟩) n cap ∧ Hid (ds.length = n) ∧ n ≤ N ∧ Hid (TxI b a0 a ds) ∧ Hid (Ry w3.heap.size wr g n cap (Bv (ds.map digB))) ∧ Ext w3 wr) (fun _ s _ => match s with | .slice _ n _ => N - n | _ => 0)
  case atStart => exact ⟨a0, [], _, 0, 0, hu0, Nat.le_refl _, rfl, rfl, Nat.zero_le _, HT0, hR0, hE0⟩
  case round =>
    clear HT0 hR0 hu0 hE0
    obtain ⟨a, ds, g, n, cap, hua, hle, rfl, hdl, hnN, HT, HR, hE⟩ := hrel
    obtain ⟨A2, c2, rfl, hc2⟩ := U.shape (U.asUn hua)
    have hla : (limbs a).length ≤ 100000 := Nat.le_trans (len_mono hle) (by omega)
    by_cases ha : a = 0
    · subst ha
      have hl0 : (limbs 0).length = 0 := by rw [limbs_zero]; rfl
      rw [hl0]
      have hspl := HT.out.spl
      rw [nd_zero, List.nil_append] at hspl
      have hdlt := HT.out.lt
      by_cases hn0 : n = 0
      · have HF : Hid (strD (dt b a0) = ⟨#[48]⟩) := by
          have hds : ds = [] := List.eq_nil_of_length_eq_zero (by rw [hdl.out]; exact hn0)
          rw [hds] at hspl
          have ha0 : a0 = 0 := by
            rcases Nat.eq_zero_or_pos a0 with h | h
            · exact h
            · exact absurd hspl (nd_ne (by omega) h2)
          rw [ha0, dt_zero]; rfl
        subst hn0
        clear hspl hdlt HT hl0
        go_wp2
        go_ret2
        exact ⟨by rw [HF.out]; first | done | rfl, hE⟩
      · have HF : Hid (dt b a0 = ds.reverse) := by
          have ha0 : a0 ≠ 0 := fun h => by
            rw [h, nd_zero] at hspl
            have := congrArg List.length hspl
            rw [List.length_reverse, hdl.out] at this
            exact hn0 this.symm
          show _ = _
          rw [dt_pos ha0, hspl]
        have hn1 : ¬ ((n : Int) = 0) := by omega
        have hd36 : Hid (∀ d ∈ ds.reverse, d < 36) := fun d hd => by have := hdlt d (List.mem_reverse.1 hd); omega
        obtain ⟨n2, hn2⟩ : ∃ n2, n / 2 = n2 := ⟨_, rfl⟩
        have o1 : (n : Int).tdiv 2 = (n2 : Int) := by rw [Int.tdiv_eq_ediv_of_nonneg (Int.natCast_nonneg _)]; omega
        have o2 : (n : Int) / 2 = (n2 : Int) := by omega
        have hll : Hid ((ds.map digB).length = n) := by show _ = _; rw [List.length_map]; exact hdl.out
        have HV0 := Lib.hid (RvI.start (ds.map digB))
        have HN2 := Lib.hid hn2
        have hn2l : n2 ≤ n := by omega
        have hn2h : 2 * n2 ≤ n := by omega
        clear hspl hdlt HT hl0 hn2
        go_wp2
        go_loopw [9] (fun t wq => ∃ (i : Nat) (o : List Nat), i ≤ n2 ∧ t = .int .i64 (i : Nat) ∧ Hid (RvI (ds.map digB) i o) ∧ Hid (Ry w3.heap.size wq g n cap (Bv o)) ∧ Ext w3 wq) (fun t _ => n2 - (intOf t).toNat)
        case atStart => exact ⟨0, _, Nat.zero_le _, rfl, HV0, HR, hE⟩
        case round =>
          clear HV0 HR hE
          obtain ⟨i, o, hi, rfl, HV, HR, hE⟩ := hrel
          have hol : o.length = n := by rw [HV.out.len]; exact hll.out
          by_cases hlt : i < n2
          · obtain ⟨k, hk⟩ : ∃ k, n - 1 - i = k := ⟨_, rfl⟩
            obtain ⟨x, hx⟩ : ∃ x, lb o i = x := ⟨_, rfl⟩
            obtain ⟨y, hy⟩ : ∃ y, lb o k = y := ⟨_, rfl⟩
            have hst := HV.out.step (by rw [hll.out, HN2.out]; exact hlt) x y n hll.out hx (by rw [hk]; exact hy)
            rw [hk] at hst
            have HST := Lib.hid hst
            have hcx := (HR.out.cell (j := i) (by omega)).trans (Bv_get o (by omega))
            have hcy := (HR.out.cell (j := k) (by omega)).trans (Bv_get o (by omega))
            rw [hx] at hcx
            rw [hy] at hcy
            have hfx := HR.out.frozen i
            have hfy := HR.out.frozen k
            have hR2 := (HR.out.set_ i y).set_ k x
            rw [← Bv_set, ← Bv_set] at hR2
            have HR2 := Lib.hid hR2
            have hE2 : Ext w3 ((wr.setCell ⟨g, i, none⟩ (.int .u8 (y : Nat))).setCell ⟨g, k, none⟩ (.int .u8 (x : Nat))) := Below.trans (Below.trans hE (HR.out.but i _)) ((HR.out.set_ i y).but k _)
            have q1 : (i : Int) < (n2 : Int) := by omega
            have q2 : (0 : Int) ≤ (i : Int) := by omega
            have q3 : (i : Int) < (n : Int) := by omega
            have q4 : (n : Int) - 1 - (i : Int) = (k : Int) := by omega
            have q5 : (0 : Int) ≤ (k : Int) := by omega
            have q6 : (k : Int) < (n : Int) := by omega
            have q7 : ¬ (i = k) := by omega
            have q8 : ¬ (k = i) := by omega
            have q9 : IntKind.i64.wrap (k : Int) = (k : Int) := by rw [IntKind.wrap_i64]; omega
            have hgl := HR.out.lt
            clear hst hx hy hk hR2 HV HR hE hol
            go_wp2
            go_roundw
            case rel => exact ⟨i + 1, _, by omega, by go_num, HST, HR2, hE2⟩
            case measure => simp [intOf]; omega
          · obtain rfl : i = n2 := by omega
            have hdn := HV.out.done (by rw [hll.out]; exact HN2.out)
            have hR3 := HR.out
            rw [hdn, ← List.map_reverse] at hR3
            have hcv := ryText ds.reverse hd36.out (by rw [List.length_reverse]; exact hdl.out) hR3
            rw [← HF.out] at hcv
            clear hdn hR3 HV HR
            go_wp2
            go_ret2
            exact ⟨rfl, hE⟩
    · have hnz := limbs_nz ha
      obtain ⟨q, hq⟩ : ∃ q, a / b = q := ⟨_, rfl⟩
      obtain ⟨r, hr⟩ : ∃ r, a % b = r := ⟨_, rfl⟩
      obtain ⟨hrb, hdN, hst⟩ := HT.out.step h2 ha q r hq hr
      have hov := rover_calls wr _ a b hua (by omega) (by omega) hla
      rw [hr, hq] at hov
      have HOV := Lib.hid hov
      have HST := Lib.hid hst
      have hr36 : r < 36 := by omega
      have hqa : q ≤ a0 := Nat.le_trans (by rw [← hq]; exact Nat.div_le_self _ _) hle
      have hnN2 : n < N := by have := hdl.out; have := HN.out; omega
      generalize (limbs a).length = la at *
      clear hst hov hq hr HT hua ha
      go_wp2_with (first
        | (go_at_call 41; refine HOV.out.mono ?_; rintro e w5 ⟨⟨u5, rfl, hu5⟩, hE5⟩; obtain ⟨A5, l5, c5, rfl⟩ := U.sl hu5)
        | (go_at_call 28; refine (rbyte_calls _ r hr36).mono ?_; rintro e w6 ⟨rfl, rfl⟩; have hE6 := (Ext.refl w6).alloc (.cells #[.int .u8 (digB r : Nat)] 5); have hR6 := (HR.out.ext hE5).ext hE6; obtain ⟨g', cap', w', hrun, hR', hgb, hg', hKe'⟩ := hR6.push (.int .u8 (digB r : Nat)) ⟨_, rfl⟩ ⟨w6.heap.size, 0, none⟩ (by go_simp) (by omega) (Nat.le_trans hE.size (Nat.le_trans hE5.size hE6.size)); obtain ⟨t1, t2, t3⟩ := app_tok hrun; have hu6 := (Un.alloc hu5 (.cells #[.int .u8 (digB r : Nat)] 5)).key hKe'; have hE7 : Ext w3 w' := Below.trans ((hE.below hE5).below hE6) hKe'.below; have hR7 := Lib.hid hR'; clear hrun hR6 hE6; clear hgb hg' hKe' hR'))
      go_roundw
      case rel => exact ⟨q, ds ++ [r], g', n + 1, cap', hu6, hqa, rfl, by show _ = _; rw [List.length_append, hdl.out]; rfl, hnN2, HST, by show Ry _ _ _ _ _ _; rw [List.map_append]; simpa [Bv] using hR7.out, hE7⟩
      case measure =>
        show N - (n + 1) < N - n
        omega
end Go.Proofs.YtigdflfhepelaaaGreatDoor
/- The document's Count, Digits, Bare. -/
namespace Go.Proofs.YtigdflfhepelaaaGreatDoor
open Go.RowKit
set_option linter.unusedVariables false
set_option maxHeartbeats 400000
attribute [local go_sem ↓] app_shut
attribute [local go_sem] run_append_tok

theorem rtext_bad (w : World) (v : Value) (b : Int) (h : b < 2 ∨ 36 < b) :
    Calls Tryz.prog 15 #[v, .int .i64 b] w fun e w' => e = .returned (.tuple #[.string ⟨#[]⟩, .int .i64 1]) ∧ w' = w := by
  have hb := Lib.hid (fun W => rbase_bad W b h)
  clear h
  go_enter Tryz.func15, Tryz.ntmps15
  go_wp2_with (go_at_call 40; refine (hb.out _).mono ?_; rintro e w3 ⟨rfl, rfl⟩)
  go_ret2
  exact ⟨rfl, rfl⟩
theorem rcount_bad (w : World) (v : Value) (b : Int) (h : b < 2 ∨ 36 < b) :
    Calls Tryz.prog 17 #[v, .int .i64 b] w fun e w' => e = .returned (.tuple #[.int .i64 0, .int .i64 1]) ∧ w' = w := by
  have hb := Lib.hid (fun W => rtext_bad W v b h)
  clear h
  go_enter Tryz.func17, Tryz.ntmps17
  go_wp2_with (go_at_call 15; refine (hb.out _).mono ?_; rintro e w3 ⟨rfl, rfl⟩)
  go_ret2
  exact ⟨rfl, rfl⟩
theorem rcount_calls (w : World) (va : Value) (a b : Nat) (hu : Un w va a) (hal : (limbs a).length ≤ 398) (h2 : 2 ≤ b) (h36 : b ≤ 36) :
    Calls Tryz.prog 17 #[va, .int .i64 (b : Nat)] w fun e w' => e = .returned (.tuple #[.int .i64 ((dt b a).length : Nat), .int .i64 0]) ∧ Ext w w' := by
  have hb := Lib.hid (rtext_calls w va a b hu hal h2 h36)
  have hsz := strD_size (dt b a)
  generalize strD (dt b a) = T at *
  clear hu
  go_enter Tryz.func17, Tryz.ntmps17
  go_wp2_with (go_at_call 15; refine hb.out.mono ?_; rintro e w3 ⟨rfl, hE3⟩)
  go_ret2
  exact ⟨by first | rfl | rw [← hsz] | rw [hsz], hE3⟩

/-- Digits made of any bytes. -/
def mk (S : ByteArray) (b : Nat) : List Nat := S.data.toList.map fun c => c.toNat % b
theorem mk_len (S : ByteArray) (b : Nat) : (mk S b).length = S.size := by simp [mk]
theorem mk_at (S : ByteArray) (b i : Nat) (hi : i < S.size) : lb (mk S b) i = (S[i]'hi).toNat % b := by
  unfold lb mk
  have h2 : i < S.data.toList.length := by rw [Array.length_toList]; exact hi
  simp only [List.getElem?_map, List.getElem?_eq_getElem h2, Option.map_some, Option.getD_some, Array.getElem_toList]
  rfl
theorem mk_lt (S : ByteArray) (b : Nat) (hb : 0 < b) : ∀ d ∈ mk S b, d < b := by
  intro d hd
  obtain ⟨c, _, rfl⟩ := List.mem_map.1 hd
  exact Nat.mod_lt _ hb
/-- At most so many of them; at least one. -/
def dgs (S : ByteArray) (b K : Nat) : List Nat := if (mk S b).take K = [] then [0] else (mk S b).take K
theorem dgs_lt (S : ByteArray) (b K : Nat) (hb : 0 < b) : ∀ d ∈ dgs S b K, d < b := by
  unfold dgs
  split
  · intro d hd; simp at hd; omega
  · exact fun d hd => mk_lt S b hb d (List.mem_of_mem_take hd)
theorem dgs_len (S : ByteArray) (b K : Nat) (hK : 1 ≤ K) : 1 ≤ (dgs S b K).length ∧ (dgs S b K).length ≤ K := by
  unfold dgs
  split
  · simp; omega
  · rename_i h
    constructor
    · cases e : (mk S b).take K with
      | nil => exact absurd e h
      | cons x xs => simp
    · rw [List.length_take]; omega
theorem take_push (l : List Nat) (i : Nat) (h : i < l.length) : l.take (i + 1) = l.take i ++ [lb l i] := by
  rw [← List.take_append_getElem h]
  unfold lb
  simp [h]

set_option maxRecDepth 100000 in
set_option maxHeartbeats 4000000 in
theorem rdigits_calls (w : World) (S : ByteArray) (b K : Nat) (h2 : 2 ≤ b) (h36 : b ≤ 36) (hK : K ≤ 100000) :
    Calls Tryz.prog 22 #[.string S, .int .i64 (b : Nat), .int .i64 (K : Nat)] w fun e w' => e = .returned (.string (strD (dgs S b K))) ∧ Ext w w' := by
  have hat := Lib.hid (mk_at S b)
  have hml := Lib.hid (mk_len S b)
  have hmt := Lib.hid (mk_lt S b (by omega))
  obtain ⟨L, hL⟩ : ∃ L, S.size = L := ⟨_, rfl⟩
  have HL := Lib.hid hL
  have hE0 := (Ext.refl w).alloc (.cells #[] 5)
  have hR0 : Hid (Ry w.heap.size (w.alloc (.cells #[] 5)) w.heap.size 0 0 (Bv (((mk S b).take 0).map digB))) := by
    rw [List.take_zero]; exact Ry.new w.heap.size w (Nat.le_refl _)
  go_enter Tryz.func22, Tryz.ntmps22
  go_wp2
  go_loopw [8, 7] (fun t s wr => ∃ (i g cap : Nat), i ≤ L ∧ i ≤ K ∧ t = .int .i64 (i : Nat) ∧ s = .slice (some ⟨g, 0, none⟩) i cap ∧ Hid (Ry w.heap.size wr g i cap (Bv (((mk S b).take i).map digB))) ∧ Ext w wr) (fun t _ _ => L - (intOf t).toNat)
  case atStart => exact ⟨0, w.heap.size, 0, Nat.zero_le _, Nat.zero_le _, rfl, rfl, hR0, hE0⟩
  case round =>
    clear hR0 hE0
    obtain ⟨i, g, cap, hi, hiK, rfl, rfl, HR, hE⟩ := hrel
    by_cases hlt : i < L ∧ i < K
    · obtain ⟨hlt, hltK⟩ := hlt
      have hi1 : (i : Int) < (L : Int) := by omega
      have hiK1 : (i : Int) < (K : Int) := by omega
      have hi2 : i < S.size := by omega
      have h1 := hat.out i hi2
      obtain ⟨c, hc⟩ : ∃ c, (S[i]'hi2).toNat = c := ⟨_, rfl⟩
      have hc256 : c < 256 := by rw [← hc]; exact UInt8.toNat_lt _
      rw [hc] at h1
      obtain ⟨d, hd⟩ : ∃ d, c % b = d := ⟨_, rfl⟩
      rw [hd] at h1
      have hd36 : d < 36 := by have := Nat.mod_lt c (show b > 0 by omega); omega
      have o1 : (c : Int).tmod (b : Int) = (d : Int) := by rw [Int.tmod_eq_emod_of_nonneg (Int.natCast_nonneg _), ← hd, Int.natCast_emod]
      have o2 : (c : Int) % (b : Int) = (d : Int) := by rw [← hd, Int.natCast_emod]
      have o3 : ¬ ((b : Int) = 0) := by omega
      have o4 : IntKind.i64.wrap (c : Int) = (c : Int) := by rw [IntKind.wrap_i64]; omega
      have htp : Hid ((mk S b).take (i + 1) = (mk S b).take i ++ [d]) := by show _ = _; rw [take_push _ i (by rw [hml.out]; exact hi2), h1]
      have hgl := HR.out.lt
      clear h1 hd
      go_wp2_with (go_at_call 28; refine (rbyte_calls _ d hd36).mono ?_; rintro e w6 ⟨rfl, rfl⟩; have hE6 := (Ext.refl w6).alloc (.cells #[.int .u8 (digB d : Nat)] 5); have hR6 := HR.out.ext hE6; obtain ⟨g', cap', w', hrun, hR', hgb, hg', hKe'⟩ := hR6.push (.int .u8 (digB d : Nat)) ⟨_, rfl⟩ ⟨w6.heap.size, 0, none⟩ (by go_simp) (by omega) (Nat.le_trans hE.size hE6.size); obtain ⟨t1, t2, t3⟩ := app_tok hrun; have hE7 : Ext w w' := Below.trans (hE.below hE6) hKe'.below; have hR7 := Lib.hid hR'; clear hrun hgb hg' hKe' hR' hR6 hE6)
      go_roundw
      case rel => exact ⟨i + 1, g', cap', by omega, by omega, by go_num, rfl, by show Ry _ _ _ _ _ _; rw [htp.out, List.map_append]; simpa [Bv] using hR7.out, hE7⟩
      case measure => simp [intOf]; omega
    · have htk : (mk S b).take K = (mk S b).take i := by
        have hm := hml.out
        rw [HL.out] at hm
        rcases Nat.lt_or_ge i K with h | h
        · rw [List.take_of_length_le (by omega), List.take_of_length_le (by omega)]
        · rw [show i = K by omega]
      have hil : ((mk S b).take i).length = i := by rw [List.length_take, hml.out, HL.out]; omega
      by_cases h0 : i = 0
      · have HF : Hid (dgs S b K = [0]) := by show _ = _; unfold dgs; rw [if_pos (by rw [htk, h0, List.take_zero])]
        subst h0
        clear htk hil
        rcases (show L = 0 ∨ K = 0 by omega) with h | h
        · subst h
          go_wp2
          go_ret
          exact ⟨by rw [HF.out]; rfl, hE⟩
        · have hK0 : ¬ ((0 : Int) < (K : Int)) := by omega
          subst h
          by_cases hL0 : 0 < L
          · have hL1 : (0 : Int) < (L : Int) := by omega
            go_wp2
            go_ret
            exact ⟨by rw [HF.out]; rfl, hE⟩
          · have hL1 : ¬ ((0 : Int) < (L : Int)) := by omega
            go_wp2
            go_ret
            exact ⟨by rw [HF.out]; rfl, hE⟩
      · have HF : Hid (dgs S b K = (mk S b).take K) := by
          show _ = _
          unfold dgs
          refine if_neg ?_
          rw [htk]
          intro h
          rw [h] at hil
          exact h0 hil.symm
        have hcv := ryText ((mk S b).take i) (fun d hd => by have := hmt.out d (List.mem_of_mem_take hd); omega) hil HR.out
        rw [← htk] at hcv
        have hi0 : ¬ ((i : Int) = 0) := by omega
        clear htk hil
        generalize hTT : strD ((mk S b).take K) = T at *
        have HTT := Lib.hid hTT
        clear hTT
        by_cases hiL : i < L
        · have h1 : (i : Int) < (L : Int) := by omega
          have h2 : ¬ ((i : Int) < (K : Int)) := by omega
          go_wp2
          go_ret
          exact ⟨by rw [HF.out, HTT.out]; first | done | rfl, hE⟩
        · have h1 : ¬ ((i : Int) < (L : Int)) := by omega
          go_wp2
          go_ret
          exact ⟨by rw [HF.out, HTT.out]; first | done | rfl, hE⟩

theorem bare_zeros (ds : List Nat) (i : Nat) (h : ∀ j, j < i → lb ds j = 0) (hi : i ≤ ds.length) : ds = List.replicate i 0 ++ ds.drop i := by
  refine ext_lb (by rw [List.length_append, List.length_replicate, List.length_drop]; omega) fun j hj => ?_
  rw [lb_append, List.length_replicate]
  by_cases c : j < i
  · rw [if_pos c, h j c, lb_zeros]
  · rw [if_neg c, lb_drop, show i + (j - i) = j by omega]
theorem bare_end (b : Nat) (hb : 2 ≤ b) (ds : List Nat) (hd : ∀ d ∈ ds, d < b) (i : Nat) (h : ∀ j, j < i → lb ds j = 0) (hi : i < ds.length) (he : i + 1 = ds.length ∨ lb ds i ≠ 0) : dt b (bval b ds) = ds.drop i := by
  rw [dt_bval b hb ds hd]
  have e := bare_zeros ds i h (by omega)
  have es : strip0 ds = strip0 (ds.drop i) := by
    conv => lhs; rw [e]
    exact strip0_zeros i _
  rw [es]
  have hcons : ds.drop i = lb ds i :: ds.drop (i + 1) := by
    rw [List.drop_eq_getElem_cons hi]
    unfold lb
    simp [hi]
  by_cases h0 : lb ds i = 0
  · have hl : i + 1 = ds.length := by
      rcases he with h1 | h1
      · exact h1
      · exact absurd h0 h1
    rw [hcons, h0, List.drop_eq_nil_of_le (by omega)]
    rfl
  · rw [hcons, strip0, if_neg h0, if_neg (by simp)]

set_option maxRecDepth 100000 in
set_option maxHeartbeats 4000000 in
theorem rbare_calls (w : World) (b : Nat) (h2 : 2 ≤ b) (h36 : b ≤ 36) (ds : List Nat) (hd : ∀ d ∈ ds, d < b) (h1 : 1 ≤ ds.length) (hl : ds.length ≤ 100000) :
    Calls Tryz.prog 23 #[.string (strD ds)] w fun e w' => e = .returned (.string (strD (dt b (bval b ds)))) ∧ w' = w := by
  have hsz := strD_size ds
  have hat := strD_at ds (fun d h => by have := hd d h; omega)
  have hdr := fun k => strD_drop ds k
  rw [strD_size] at hdr
  have hEND := Lib.hid (bare_end b h2 ds hd)
  generalize strD ds = S at *
  obtain ⟨m, hm⟩ : ∃ m, ds.length = m + 1 := ⟨ds.length - 1, by omega⟩
  have HM := Lib.hid hm
  have HAT := Lib.hid hat
  have hlt36 := Lib.hid (fun i (hi : i < ds.length) => hd _ (lb_mem ds i hi))
  rw [hm] at hsz hdr hl
  have HDR := Lib.hid hdr
  clear hm hat hdr h1 hd
  have o0 : ((m + 1 : Nat) : Int) - 1 = (m : Int) := by omega
  go_enter Tryz.func23, Tryz.ntmps23
  go_wp2
  go_loopw [3] (fun t wr => ∃ i : Nat, i ≤ m ∧ t = .int .i64 (i : Nat) ∧ Hid (∀ j, j < i → lb ds j = 0) ∧ wr = w) (fun t _ => m - (intOf t).toNat)
  case atStart => exact ⟨0, Nat.zero_le _, rfl, fun j hj => by omega, rfl⟩
  case round =>
    obtain ⟨i, hi, rfl, HI, rfl⟩ := hrel
    obtain ⟨T, hT⟩ : ∃ T, strD (ds.drop i) = T := ⟨_, rfl⟩
    have hTd := (HDR.out i).trans hT
    have HT := Lib.hid hT
    have hil : (i : Int) ≤ ((m + 1 : Nat) : Int) := by omega
    have hi0 : (0 : Int) ≤ (i : Int) := by omega
    clear hT
    by_cases hlt : i < m
    · have hi1 : (i : Int) < (m : Int) := by omega
      have hi2 : i < S.size := by omega
      have hcl := HAT.out i hi2
      have h36d := hlt36.out i (by rw [HM.out]; omega)
      obtain ⟨d, hdd⟩ : ∃ d, lb ds i = d := ⟨_, rfl⟩
      rw [hdd] at hcl h36d
      by_cases hd0 : d = 0
      · have hcl2 : (S[i]'hi2).toNat = 48 := by rw [hcl, hd0]; rfl
        have HN : Hid (∀ j, j < i + 1 → lb ds j = 0) := fun j hj => by
          rcases Nat.lt_or_ge j i with h | h
          · exact HI.out j h
          · obtain rfl : j = i := by omega
            rw [hdd, hd0]
        clear hcl hdd hd0 HI
        go_wp2
        go_roundw
        case rel => exact ⟨i + 1, by omega, by go_num, HN, by trivial⟩
        case measure => simp [intOf]; omega
      · have hne : ¬ (digB d = 48) := fun h => hd0 (digB_zero.1 h)
        have HF := Lib.hid (hEND.out i HI.out (by rw [HM.out]; omega) (.inr (by rw [hdd]; exact hd0)))
        generalize digB d = D at *
        have hneI : ¬ ((D : Int) = 48) := by omega
        clear hdd hd0 HI
        go_wp2
        go_ret
        exact ⟨by rw [HF.out, HT.out]; first | done | rfl, rfl⟩
    · obtain rfl : i = m := by omega
      have HF := Lib.hid (hEND.out i HI.out (by rw [HM.out]; omega) (.inl HM.out.symm))
      clear HI
      go_wp2
      go_ret
      exact ⟨by rw [HF.out, HT.out]; first | done | rfl, rfl⟩
end Go.Proofs.YtigdflfhepelaaaGreatDoor
/- A base that is none. -/
namespace Go.Proofs.YtigdflfhepelaaaGreatDoor
open Go.RowKit
set_option linter.unusedVariables false
set_option maxHeartbeats 1000000

set_option maxRecDepth 100000 in
theorem text_bad (w : World) (v : Value) (b : Int) (h : b < 2 ∨ 36 < b) :
    Calls Tryz.prog 14 #[v, .int .i64 b] w fun e w' => e = .returned (.tuple #[.string ⟨#[]⟩, .int .i64 1]) ∧ w' = w := by
  rcases h with h | h
  · go_enter Tryz.func14, Tryz.ntmps14
    go_wp2
    go_ret2
    exact ⟨rfl, rfl⟩
  · have h2 : ¬ b < 2 := by omega
    go_enter Tryz.func14, Tryz.ntmps14
    go_wp2
    go_ret2
    exact ⟨rfl, rfl⟩

set_option maxRecDepth 100000 in
theorem count_bad (w : World) (v : Value) (b : Int) (h : b < 2 ∨ 36 < b) :
    Calls Tryz.prog 16 #[v, .int .i64 b] w fun e w' => e = .returned (.tuple #[.int .i64 0, .int .i64 1]) ∧ w' = w := by
  rcases h with h | h
  · go_enter Tryz.func16, Tryz.ntmps16
    go_wp2
    go_ret2
    exact ⟨rfl, rfl⟩
  · have h2 : ¬ b < 2 := by omega
    go_enter Tryz.func16, Tryz.ntmps16
    go_wp2
    go_ret2
    exact ⟨rfl, rfl⟩

set_option maxRecDepth 100000 in
theorem read_bad (w : World) (v : Value) (b : Int) (h : b < 2 ∨ 36 < b) :
    Calls Tryz.prog 18 #[v, .int .i64 b] w fun e w' => e = .returned (.tuple #[.slice none 0 0, .int .i64 0, .int .i64 1]) ∧ w' = w := by
  rcases h with h | h
  · go_enter Tryz.func18, Tryz.ntmps18
    go_wp2
    go_ret3
    exact ⟨rfl, rfl⟩
  · have h2 : ¬ b < 2 := by omega
    go_enter Tryz.func18, Tryz.ntmps18
    go_wp2
    go_ret3
    exact ⟨rfl, rfl⟩
end Go.Proofs.YtigdflfhepelaaaGreatDoor
/- What is written, what is read: the laws' own questions. -/
namespace Go.Proofs.YtigdflfhepelaaaGreatDoor
open Go.RowKit
set_option linter.unusedVariables false
set_option maxHeartbeats 400000

set_option maxRecDepth 100000 in
theorem writes_calls (w : World) (va : Value) (a b : Nat) (S : ByteArray) (hu : Un w va a) (hal : (limbs a).length ≤ 398) (h2 : 2 ≤ b) (h36 : b ≤ 36) (hS : strD (dt b a) = S) :
    Calls Tryz.prog 30 #[va, .int .i64 (b : Nat), .string S] w fun e w' => e = .returned (.bool true) ∧ Ext w w' := by
  obtain ⟨A, l, c, rfl⟩ := U.sl hu
  have hT := Lib.hid (text_calls w (.slice A l c) a b hu hal h2 h36)
  have hC := Lib.hid (fun W h => count_calls W (.slice A l c) a b h hal h2 h36)
  have hsz : S.size = (dt b a).length := by rw [← hS, strD_size]
  rw [hS] at hT
  obtain ⟨n, hn⟩ : ∃ n, (dt b a).length = n := ⟨_, rfl⟩
  rw [hn] at hC hsz
  clear hS hn
  go_enter Tryz.func30, Tryz.ntmps30
  go_wp2_with (first
    | (go_at_call 14; refine hT.out.mono ?_; rintro e w3 ⟨rfl, hE3⟩)
    | (go_at_call 16; refine (hC.out _ (hu.below hE3)).mono ?_; rintro e w4 ⟨rfl, hE4⟩))
  go_ret
  exact ⟨by simp, hE3.below hE4⟩

set_option maxRecDepth 100000 in
theorem reads_of (w : World) (S : ByteArray) (b at_ c : Int) (vw u : Value) (xs : List Nat) (hw : U w vw xs)
    (hR : Calls Tryz.prog 18 #[.string S, .int .i64 b] w fun e w' => ∃ u, e = .returned (.tuple #[u, .int .i64 at_, .int .i64 c]) ∧ U w' u xs ∧ Ext w w') :
    Calls Tryz.prog 31 #[.string S, .int .i64 b, vw, .int .i64 at_, .int .i64 c] w fun e w' => e = .returned (.bool true) ∧ Ext w w' := by
  obtain ⟨A, l, c1, rfl⟩ := U.sl hw
  have hRH := Lib.hid hR
  clear hR
  go_enter Tryz.func31, Tryz.ntmps31
  go_wp2_with (first
    | (go_at_call 18; refine hRH.out.mono ?_; rintro e w3 ⟨u3, rfl, hu3, hE3⟩; obtain ⟨A3, l3, c3, rfl⟩ := U.sl hu3)
    | (go_at_call 20; refine (rsame_U _ _ _ xs xs hu3 (U.below hw hE3) true (decide_eq_true rfl)).mono ?_; rintro e w4 ⟨rfl, hE4⟩))
  go_ret
  exact ⟨by first | rfl | simp, hE3.below hE4⟩

/-- Digits are read. -/
theorem read_good (w : World) (S : ByteArray) (b n : Nat) (h2 : 2 ≤ b) (h36 : b ≤ 36) (hl : S.size ≤ 19000) (hM : (limbs (b ^ S.size)).length ≤ 398) (h0 : S.size ≠ 0) (hd : ∀ d ∈ worL S, d < b) (hn : bval b (worL S) = n) :
    Calls Tryz.prog 18 #[.string S, .int .i64 (b : Nat)] w fun e w' => ∃ u, e = .returned (.tuple #[u, .int .i64 0, .int .i64 0]) ∧ Un w' u n ∧ Ext w w' := by
  refine (read_calls w S b h2 h36 hl hM).mono fun e w' h => ?_
  rcases h with ⟨i, hi, _, hb, _⟩ | ⟨h, _⟩ | ⟨_, _, u, he, hu, hE⟩
  · exfalso
    have := hd _ (lb_mem (worL S) i (by rw [worL_len]; exact hi))
    omega
  · exact absurd h h0
  · exact ⟨u, he, by rw [← hn]; exact hu, hE⟩
/-- A text with a byte that is no digit. -/
theorem read_wrong (w : World) (S : ByteArray) (b i : Nat) (h2 : 2 ≤ b) (h36 : b ≤ 36) (hl : S.size ≤ 19000) (hM : (limbs (b ^ S.size)).length ≤ 398) (hi : i < S.size) (h1 : ∀ j, j < i → lb (worL S) j < b) (hb : b ≤ lb (worL S) i) :
    Calls Tryz.prog 18 #[.string S, .int .i64 (b : Nat)] w fun e w' => e = .returned (.tuple #[.slice none 0 0, .int .i64 (i : Nat), .int .i64 50]) ∧ w' = w := by
  refine (read_calls w S b h2 h36 hl hM).mono fun e w' h => ?_
  rcases h with ⟨j, hj, hj1, hjb, he, hw⟩ | ⟨h, _⟩ | ⟨_, hd, _⟩
  · have : i = j := by
      rcases Nat.lt_trichotomy i j with h | h | h
      · have := hj1 i h; omega
      · exact h
      · have := h1 j h; omega
    subst this
    exact ⟨he, hw⟩
  · omega
  · exfalso
    have := hd _ (lb_mem (worL S) i (by rw [worL_len]; exact hi))
    omega
theorem read_empty (w : World) (b : Nat) (h2 : 2 ≤ b) (h36 : b ≤ 36) :
    Calls Tryz.prog 18 #[.string ⟨#[]⟩, .int .i64 (b : Nat)] w fun e w' => e = .returned (.tuple #[.slice none 0 0, .int .i64 0, .int .i64 50]) ∧ w' = w := by
  have hz : (⟨#[]⟩ : ByteArray).size = 0 := rfl
  refine (read_calls w ⟨#[]⟩ b h2 h36 (by rw [hz]; omega) (by rw [hz, Nat.pow_zero]; exact Nat.le_trans (sl_one_len (by decide)) (by omega))).mono fun e w' h => ?_
  rcases h with ⟨i, hi, _⟩ | ⟨_, he, hw⟩ | ⟨h, _⟩
  · rw [hz] at hi; omega
  · exact ⟨he, hw⟩
  · exact absurd hz h
theorem dt_lit (b a : Nat) (ds : List Nat) (hb : 2 ≤ b) (hd : ∀ d ∈ ds, d < b) (hv : bval b ds = a) (h0 : strip0 ds = ds) (hne : ds ≠ []) (S : ByteArray) (hS : strD ds = S) : strD (dt b a) = S := by
  rw [← hv, dt_bval b hb ds hd, h0, if_neg hne, hS]
end Go.Proofs.YtigdflfhepelaaaGreatDoor
/- The laws' head: questions whose answers are fixed. -/
namespace Go.Proofs.YtigdflfhepelaaaGreatDoor
open Go.RowKit
set_option linter.unusedVariables false
set_option maxHeartbeats 400000

theorem ext_eq {w w' : World} (h : w' = w) : Ext w w' := by rw [h]; exact Ext.refl w
theorem pow36 (b k : Nat) (hb : b ≤ 36) (hk : k ≤ 2000) : (limbs (b ^ k)).length ≤ 398 := by
  have h1 : b ^ k ≤ (2 ^ 6) ^ k := Nat.pow_le_pow_left (Nat.le_trans hb (by decide)) k
  rw [← Nat.pow_mul] at h1
  obtain ⟨q, hq⟩ : ∃ q, 398 = q := ⟨_, rfl⟩
  rw [hq]
  refine len_of (k := q) ?_
  have e0 : LB = 2 ^ 32 := rfl
  rw [e0, ← Nat.pow_mul]
  exact Nat.lt_of_le_of_lt h1 (Nat.pow_lt_pow_right (by decide) (by omega))
theorem Un_litH (w : World) (N : Nat) (hN : w.heap.size = N) (xs : List Nat) (n : Nat) (hx : ∀ x ∈ xs, x < 4294967296) (hm : xs.length ≤ 1000000) (hv : limbs n = xs) : Un (w.alloc (.cells (L32 xs).toArray 46)) (.slice (some ⟨N, 0, none⟩) xs.length xs.length) n := by
  subst hN
  rw [Un, hv]; exact U_lit w xs hx hm
theorem lim_4294967296 : limbs 4294967296 = [0, 1] := by
  rw [limbs_pos (by decide), show 4294967296 % 4294967296 = 0 from rfl, show 4294967296 / 4294967296 = 1 from rfl, limbs_smallN 1 (by decide) (by decide)]
theorem lim_18446744073709551615 : limbs 18446744073709551615 = [4294967295, 4294967295] := by
  rw [limbs_pos (by decide), show 18446744073709551615 % 4294967296 = 4294967295 from rfl, show 18446744073709551615 / 4294967296 = 4294967295 from rfl, limbs_smallN 4294967295 (by decide) (by decide)]
theorem lim_18446744073709551616 : limbs 18446744073709551616 = [0, 0, 1] := by
  rw [limbs_pos (by decide), show 18446744073709551616 % 4294967296 = 0 from rfl, show 18446744073709551616 / 4294967296 = 4294967296 from rfl, lim_4294967296]
theorem reads_good (w : World) (S : ByteArray) (b n : Nat) (vw : Value) (hw : Un w vw n) (h2 : 2 ≤ b) (h36 : b ≤ 36) (hl : S.size ≤ 2000) (h0 : S.size ≠ 0) (hd : ∀ d ∈ worL S, d < b) (hn : bval b (worL S) = n) :
    Calls Tryz.prog 31 #[.string S, .int .i64 (b : Nat), vw, .int .i64 0, .int .i64 0] w fun e w' => e = .returned (.bool true) ∧ Ext w w' :=
  reads_of w S b 0 0 vw undef (limbs n) hw ((read_good w S b n h2 h36 (by omega) (pow36 b _ h36 hl) h0 hd hn).mono fun e w' ⟨u, he, hu, hE⟩ => ⟨u, he, hu, hE⟩)
theorem reads_wrong (w : World) (S : ByteArray) (b i : Nat) (h2 : 2 ≤ b) (h36 : b ≤ 36) (hl : S.size ≤ 2000) (hi : i < S.size) (h1 : ∀ j, j < i → lb (worL S) j < b) (hb : b ≤ lb (worL S) i) :
    Calls Tryz.prog 31 #[.string S, .int .i64 (b : Nat), .slice none 0 0, .int .i64 (i : Nat), .int .i64 50] w fun e w' => e = .returned (.bool true) ∧ Ext w w' :=
  reads_of w S b i 50 (.slice none 0 0) undef [] (U.nil_ _ _ _) ((read_wrong w S b i h2 h36 (by omega) (pow36 b _ h36 hl) hi h1 hb).mono fun e w' ⟨he, hw⟩ => ⟨_, he, U.nil_ _ _ _, ext_eq hw⟩)
theorem reads_empty (w : World) (b : Nat) (h2 : 2 ≤ b) (h36 : b ≤ 36) :
    Calls Tryz.prog 31 #[.string ⟨#[]⟩, .int .i64 (b : Nat), .slice none 0 0, .int .i64 0, .int .i64 50] w fun e w' => e = .returned (.bool true) ∧ Ext w w' :=
  reads_of w _ b 0 50 (.slice none 0 0) undef [] (U.nil_ _ _ _) ((read_empty w b h2 h36).mono fun e w' ⟨he, hw⟩ => ⟨_, he, U.nil_ _ _ _, ext_eq hw⟩)
theorem reads_bad (w : World) (S : ByteArray) (b : Int) (h : b < 2 ∨ 36 < b) :
    Calls Tryz.prog 31 #[.string S, .int .i64 b, .slice none 0 0, .int .i64 0, .int .i64 1] w fun e w' => e = .returned (.bool true) ∧ Ext w w' :=
  reads_of w _ b 0 1 (.slice none 0 0) undef [] (U.nil_ _ _ _) ((read_bad w (.string S) b h).mono fun e w' ⟨he, hw⟩ => ⟨_, he, U.nil_ _ _ _, ext_eq hw⟩)

set_option maxRecDepth 100000 in
set_option maxHeartbeats 8000000 in
theorem xhead_calls (w : World) : Calls Tryz.prog 12 #[] w fun e w' => e = .returned (.bool true) ∧ Ext w w' := by
  have HB := Ext.refl w
  go_enter Tryz.func12, Tryz.ntmps12
  go_wp2_with (fail)
  refine (text_bad _ _ 1 (.inl (by decide))).mono ?_
  rintro e w1 ⟨rfl, hw⟩
  have hB := ext_eq hw
  clear hw
  replace HB := (HB.alloc _).below hB
  clear hB
  go_wp2_with (fail)
  refine (text_bad _ _ 37 (.inr (by decide))).mono ?_
  rintro e w2 ⟨rfl, hw⟩
  have hB := ext_eq hw
  clear hw
  replace HB := HB.below hB
  clear hB
  go_wp2_with (fail)
  refine (count_bad _ _ 0 (.inl (by decide))).mono ?_
  rintro e w3 ⟨rfl, hw⟩
  have hB := ext_eq hw
  clear hw
  replace HB := (HB.alloc _).below hB
  clear hB
  go_wp2_with (fail)
  refine (writes_calls _ _ 0 7 ⟨#[48]⟩ (Un_none _ none 0) (by rw [limbs_zero]; decide) (by decide) (by decide) (by rw [dt_zero]; rfl)).mono ?_
  rintro e w4 ⟨rfl, hB⟩
  replace HB := HB.below hB
  clear hB
  go_wp2_with (fail)
  refine (writes_calls _ _ 255 16 ⟨#[102, 102]⟩ (Un_litH _ (w4.heap.size) rfl [255] 255 (by decide) (by decide) (limbs_smallN 255 (by decide) (by decide))) (Nat.le_trans (len_of (k := 1) (by unfold LB; decide)) (by decide)) (by decide) (by decide) (dt_lit 16 255 [15, 15] (by decide) (by decide) (by decide) (by decide) (by decide) _ rfl)).mono ?_
  rintro e w5 ⟨rfl, hB⟩
  replace HB := (HB.alloc _).below hB
  clear hB
  go_wp2_with (fail)
  refine (writes_calls _ _ 4294967296 10 ⟨#[52, 50, 57, 52, 57, 54, 55, 50, 57, 54]⟩ (Un_litH _ (w5.heap.size) rfl [0, 1] 4294967296 (by decide) (by decide) lim_4294967296) (Nat.le_trans (len_of (k := 2) (by unfold LB; decide)) (by decide)) (by decide) (by decide) (dt_lit 10 4294967296 [4, 2, 9, 4, 9, 6, 7, 2, 9, 6] (by decide) (by decide) (by decide) (by decide) (by decide) _ rfl)).mono ?_
  rintro e w6 ⟨rfl, hB⟩
  replace HB := (HB.alloc _).below hB
  clear hB
  go_wp2_with (fail)
  refine (writes_calls _ _ 18446744073709551615 36 ⟨#[51, 119, 53, 101, 49, 49, 50, 54, 52, 115, 103, 115, 102]⟩ (Un_litH _ (w6.heap.size) rfl [4294967295, 4294967295] 18446744073709551615 (by decide) (by decide) lim_18446744073709551615) (Nat.le_trans (len_of (k := 2) (by unfold LB; decide)) (by decide)) (by decide) (by decide) (dt_lit 36 18446744073709551615 [3, 32, 5, 14, 1, 1, 2, 6, 4, 28, 16, 28, 15] (by decide) (by decide) (by decide) (by decide) (by decide) _ rfl)).mono ?_
  rintro e w7 ⟨rfl, hB⟩
  replace HB := (HB.alloc _).below hB
  clear hB
  go_wp2_with (fail)
  refine (writes_calls _ _ 5 2 ⟨#[49, 48, 49]⟩ (Un_litH _ (w7.heap.size) rfl [5] 5 (by decide) (by decide) (limbs_smallN 5 (by decide) (by decide))) (Nat.le_trans (len_of (k := 1) (by unfold LB; decide)) (by decide)) (by decide) (by decide) (dt_lit 2 5 [1, 0, 1] (by decide) (by decide) (by decide) (by decide) (by decide) _ rfl)).mono ?_
  rintro e w8 ⟨rfl, hB⟩
  replace HB := (HB.alloc _).below hB
  clear hB
  go_wp2_with (fail)
  refine (reads_good _ ⟨#[48, 48, 122]⟩ 36 35 _ (Un_litH _ (w8.heap.size) rfl [35] 35 (by decide) (by decide) (limbs_smallN 35 (by decide) (by decide))) (by decide) (by decide) (by decide) (by decide) (by decide) (by decide)).mono ?_
  rintro e w9 ⟨rfl, hB⟩
  replace HB := (HB.alloc _).below hB
  clear hB
  go_wp2_with (fail)
  refine (reads_wrong _ ⟨#[49, 50, 97]⟩ 10 2 (by decide) (by decide) (by decide) (by decide) (by decide) (by decide)).mono ?_
  rintro e w10 ⟨rfl, hB⟩
  replace HB := HB.below hB
  clear hB
  go_wp2_with (fail)
  refine (reads_empty _ 10 (by decide) (by decide)).mono ?_
  rintro e w11 ⟨rfl, hB⟩
  replace HB := HB.below hB
  clear hB
  go_wp2_with (fail)
  refine (reads_bad _ ⟨#[49]⟩ 1 (.inl (by decide))).mono ?_
  rintro e w12 ⟨rfl, hB⟩
  replace HB := HB.below hB
  clear hB
  go_wp2_with (fail)
  refine (reads_good _ ⟨#[48, 48, 48, 48]⟩ 2 0 _ (Un_none _ none 0) (by decide) (by decide) (by decide) (by decide) (by decide) (by decide)).mono ?_
  rintro e w13 ⟨rfl, hB⟩
  replace HB := HB.below hB
  clear hB
  go_wp2_with (fail)
  refine (reads_wrong _ ⟨#[70, 70]⟩ 16 0 (by decide) (by decide) (by decide) (by decide) (by decide) (by decide)).mono ?_
  rintro e w14 ⟨rfl, hB⟩
  replace HB := HB.below hB
  clear hB
  go_wp2_with (fail)
  refine (reads_good _ ⟨#[49, 56, 52, 52, 54, 55, 52, 52, 48, 55, 51, 55, 48, 57, 53, 53, 49, 54, 49, 54]⟩ 10 18446744073709551616 _ (Un_litH _ (w14.heap.size) rfl [0, 0, 1] 18446744073709551616 (by decide) (by decide) lim_18446744073709551616) (by decide) (by decide) (by decide) (by decide) (by decide) (by decide)).mono ?_
  rintro e w15 ⟨rfl, hB⟩
  replace HB := (HB.alloc _).below hB
  clear hB
  go_wp2
  go_ret
  exact ⟨rfl, HB⟩
end Go.Proofs.YtigdflfhepelaaaGreatDoor
/- The document's Mod: a natural modulo a prime. -/
namespace Go.Proofs.YtigdflfhepelaaaGreatDoor
open Go.RowKit
set_option linter.unusedVariables false
set_option maxHeartbeats 400000

theorem mod_step (xs : List Nat) (k rs x y s : Nat) (hk : k < xs.length) (hx : lb xs k = x) (hy : 4294967296 * rs + x = y) (hs : y % 4294967291 = s) (h : rs = val (xs.drop (k + 1)) % 4294967291) : s = val (xs.drop k) % 4294967291 := by
  rw [val_cons_drop xs k hk, hx, ← hs, ← hy, h]
  generalize val (xs.drop (k + 1)) = V
  omega

set_option maxRecDepth 100000 in
set_option maxHeartbeats 4000000 in
theorem rmod_calls (w : World) (v : Value) (a : Nat) (h : Un w v a) :
    Calls Tryz.prog 26 #[v] w fun e w' => e = .returned (.int .u64 (a % 4294967291 : Nat)) ∧ w' = w := by
  have hva := val_limbs a
  have h' : U w v (limbs a) := h
  generalize limbs a = xs at *
  clear h
  obtain ⟨A, c, rfl, ⟨hc, hmx⟩, hx, hr0⟩ := h'
  obtain ⟨L, hL⟩ : ∃ L, xs.length = L := ⟨_, rfl⟩
  have HL := Lib.hid hL
  rw [hL] at hc hmx hr0 ⊢
  have HS0 : Hid (0 = val (xs.drop L) % 4294967291) := by rw [List.drop_eq_nil_of_le (by omega)]; rfl
  have HDN : Hid (∀ s, s = val (xs.drop 0) % 4294967291 → s = a % 4294967291) := fun s e => by rw [e, List.drop_zero, hva]
  clear hL hva
  go_enter Tryz.func26, Tryz.ntmps26
  go_wp2
  go_loopw [4, 3] (fun t s wr => ∃ (k rs : Nat) (z : Int), k ≤ L ∧ t = .int .i64 z ∧ z = (k : Int) - 1 ∧ s = .int .u64 (rs : Nat) ∧ rs < 4294967296 ∧ Hid (rs = val (xs.drop k) % 4294967291) ∧ wr = w) (fun t _ _ => (intOf t + 1).toNat)
  case atStart => exact ⟨L, 0, _, Nat.le_refl _, rfl, rfl, rfl, by omega, HS0, rfl⟩
  case round =>
    clear HS0
    obtain ⟨k, rs, z, hk, rfl, hz, rfl, hrb, HO, rfl⟩ := hrel
    cases k with
    | zero =>
      obtain rfl : z = -1 := by omega
      clear hz
      have HE := Lib.hid (HDN.out rs HO.out)
      clear HO HDN
      go_wp2
      go_ret
      exact ⟨by rw [HE.out]; rfl, rfl⟩
    | succ j =>
      obtain rfl : z = (j : Int) := by omega
      clear hz
      obtain ⟨ad, rfl, hb, hcell⟩ := hr0 (by omega)
      have hc0 := hcell j (by omega)
      have hxb := lb_lt hx j
      obtain ⟨x, hx0⟩ : ∃ x, lb xs j = x := ⟨_, rfl⟩
      rw [hx0] at hc0 hxb
      obtain ⟨y, hy⟩ : ∃ y, 4294967296 * rs + x = y := ⟨_, rfl⟩
      obtain ⟨s, hs⟩ : ∃ s, y % 4294967291 = s := ⟨_, rfl⟩
      have HST := Lib.hid (mod_step xs j rs x y s (by rw [HL.out]; omega) hx0 hy hs HO.out)
      have o1 : ((4294967296 * rs : Nat) : Int) + (x : Int) = (y : Int) := by omega
      have o2 : (rs : Int) * 4294967296 = ((4294967296 * rs : Nat) : Int) := by omega
      have o3 := u64_fit (show 4294967296 * rs < 18446744073709551616 by omega)
      have o4 := u64_mod (show 4294967296 * rs < 18446744073709551616 by omega)
      have o5 := u64_fit (show x < 18446744073709551616 by omega)
      have o6 := u64_mod (show x < 18446744073709551616 by omega)
      have o7 : (y : Int).tmod 4294967291 = (s : Int) := by rw [Int.tmod_eq_emod_of_nonneg (Int.natCast_nonneg _), ← hs, Int.natCast_emod]; rfl
      have o8 : (y : Int) % 4294967291 = (s : Int) := by rw [← hs, Int.natCast_emod]; rfl
      have o9 := u64_fit (show y < 18446744073709551616 by omega)
      have o10 := u64_mod (show y < 18446744073709551616 by omega)
      have hsb : s < 4294967296 := by omega
      have o11 := u64_fit (show s < 18446744073709551616 by omega)
      have hj2 : j < L := by omega
      generalize 4294967296 * rs = y2 at *
      clear hx0 hxb hrb hs hy HO hcell hr0
      go_wp2
      go_roundw
      case rel => exact ⟨j, s, _, by omega, rfl, rfl, rfl, hsb, HST, by trivial⟩
      case measure => simp [intOf]
end Go.Proofs.YtigdflfhepelaaaGreatDoor
/- Numbers of the laws: how long a text is; what is written is read. -/
namespace Go.Proofs.YtigdflfhepelaaaGreatDoor
open Go.RowKit
set_option linter.unusedVariables false
set_option maxHeartbeats 400000

theorem dt_ge (b a : Nat) (hb : 2 ≤ b) (ha : a ≠ 0) : b ^ ((dt b a).length - 1) ≤ a := by
  rcases Nat.lt_or_ge a (b ^ ((dt b a).length - 1)) with h | h
  · exfalso
    have h1 := dt_len1 b hb a
    by_cases h2 : (dt b a).length = 1
    · rw [h2, Nat.sub_self, Nat.pow_zero] at h
      omega
    · have := dt_len_le b hb a ((dt b a).length - 1) (by omega) h
      omega
  · exact h
theorem dt_pow_len (b a : Nat) (hb : 2 ≤ b) (h36 : b ≤ 36) (hl : (limbs a).length ≤ 390) : (limbs (b ^ (dt b a).length)).length ≤ 398 := by
  by_cases ha : a = 0
  · subst ha
    rw [dt_zero]
    exact pow36 b 1 h36 (by decide)
  · have h1 := dt_ge b a hb ha
    have h0 := dt_len1 b hb a
    obtain ⟨k, hk⟩ : ∃ k, (dt b a).length = k + 1 := ⟨(dt b a).length - 1, by omega⟩
    rw [hk, Nat.add_sub_cancel] at h1
    rw [hk, Nat.pow_succ]
    have h2 : b ^ k * b ≤ a * 36 := Nat.mul_le_mul h1 h36
    have h3 : a < LB ^ (limbs a).length := lt_of_len_le (Nat.le_refl _)
    refine Nat.le_trans (len_of (k := (limbs a).length + 1) ?_) (by omega)
    rw [Nat.pow_succ]
    have h4 : a * 36 < LB ^ (limbs a).length * LB := Nat.lt_of_lt_of_le (Nat.mul_lt_mul_of_pos_right h3 (by decide)) (Nat.mul_le_mul_left _ (by unfold LB; decide))
    omega
theorem dt_len_bound (b a : Nat) (hb : 2 ≤ b) (hl : (limbs a).length ≤ 390) : (dt b a).length ≤ 12480 := by
  obtain ⟨E, hE⟩ : ∃ E, 12480 = E := ⟨_, rfl⟩
  rw [hE]
  refine dt_len_le b hb a E (by omega) ?_
  have h3 : a < 4294967296 ^ (limbs a).length := lt_of_len_le (Nat.le_refl _)
  have e0 : (4294967296 : Nat) = 2 ^ 32 := rfl
  rw [e0, ← Nat.pow_mul] at h3
  have h4 : 2 ^ (32 * (limbs a).length) ≤ 2 ^ E := Nat.pow_le_pow_right (by decide) (by omega)
  have h5 : 2 ^ E ≤ b ^ E := Nat.pow_le_pow_left hb E
  omega
theorem cutK_len (xs : List Nat) (K : Nat) (hx : ∀ x ∈ xs, x < 4294967296) : (limbs (val (xs.take K))).length ≤ K := cutN_len xs K hx
/-- What is written is read as it was. -/
theorem read_dt (w : World) (b a : Nat) (h2 : 2 ≤ b) (h36 : b ≤ 36) (hl : (limbs a).length ≤ 390) :
    Calls Tryz.prog 18 #[.string (strD (dt b a)), .int .i64 (b : Nat)] w fun e w' => ∃ u, e = .returned (.tuple #[u, .int .i64 0, .int .i64 0]) ∧ Un w' u a ∧ Ext w w' := by
  have hd := dt_lt b h2 a
  have hw := worL_strD (dt b a) (fun d h => by have := hd d h; omega)
  have h1 := dt_len1 b h2 a
  refine read_good w _ b a h2 h36 ?_ ?_ ?_ ?_ ?_
  · rw [strD_size]; have := dt_len_bound b a h2 hl; omega
  · rw [strD_size]; exact dt_pow_len b a h2 h36 hl
  · rw [strD_size]; omega
  · rw [hw]; exact hd
  · rw [hw]; exact bval_dt b h2 a
/-- Digits are read. -/
theorem read_ds (w : World) (b : Nat) (ds : List Nat) (n : Nat) (h2 : 2 ≤ b) (h36 : b ≤ 36) (hd : ∀ d ∈ ds, d < b) (h1 : 1 ≤ ds.length) (hl : ds.length ≤ 2000) (hn : bval b ds = n) :
    Calls Tryz.prog 18 #[.string (strD ds), .int .i64 (b : Nat)] w fun e w' => ∃ u, e = .returned (.tuple #[u, .int .i64 0, .int .i64 0]) ∧ Un w' u n ∧ Ext w w' := by
  have hw := worL_strD ds (fun d h => by have := hd d h; omega)
  refine read_good w _ b n h2 h36 ?_ ?_ ?_ ?_ ?_
  · rw [strD_size]; omega
  · rw [strD_size]; exact pow36 b _ h36 hl
  · rw [strD_size]; omega
  · rw [hw]; exact hd
  · rw [hw]; exact hn
/-- A number of so few digits has few limbs. -/
theorem bval_len (b : Nat) (ds : List Nat) (h36 : b ≤ 36) (hd : ∀ d ∈ ds, d < b) (hl : ds.length ≤ 1900) : (limbs (bval b ds)).length ≤ 380 := by
  have h1 := bval_lt b ds hd
  obtain ⟨q, hq⟩ : ∃ q, 380 = q := ⟨_, rfl⟩
  rw [hq]
  refine len_of (k := q) ?_
  have h2 : b ^ ds.length ≤ (2 ^ 6) ^ ds.length := Nat.pow_le_pow_left (Nat.le_trans h36 (by decide)) _
  rw [← Nat.pow_mul] at h2
  have e0 : LB = 2 ^ 32 := rfl
  rw [e0, ← Nat.pow_mul]
  have h3 : 2 ^ (6 * ds.length) < 2 ^ (32 * q) := Nat.pow_lt_pow_right (by decide) (by omega)
  omega
end Go.Proofs.YtigdflfhepelaaaGreatDoor
/- The laws' questions at any base and any text: the program's answers and the document's are told alike. -/
namespace Go.Proofs.YtigdflfhepelaaaGreatDoor
open Go.RowKit
set_option linter.unusedVariables false
set_option maxHeartbeats 400000

/-- A call that reads a text: it answers these limbs, this place, this code. -/
def RdF (f : FuncId) (S : ByteArray) (b : Int) (xs : List Nat) (at_ c : Int) : Prop :=
  ∀ w, Calls Tryz.prog f #[.string S, .int .i64 b] w fun e w' => ∃ u, e = .returned (.tuple #[u, .int .i64 at_, .int .i64 c]) ∧ U w' u xs ∧ Ext w w'
/-- Where a text's first byte lies that is no digit. -/
theorem rd_cases (S : ByteArray) (b : Nat) : S.size = 0 ∨ (S.size ≠ 0 ∧ ∀ d ∈ worL S, d < b) ∨ ∃ i, i < S.size ∧ (∀ j, j < i → lb (worL S) j < b) ∧ b ≤ lb (worL S) i := by
  by_cases h0 : S.size = 0
  · exact .inl h0
  by_cases h1 : ∃ i, i < S.size ∧ b ≤ lb (worL S) i
  · refine .inr (.inr ?_)
    obtain ⟨i, hi, hb⟩ := h1
    induction i using Nat.strongRecOn with
    | ind i ih =>
      by_cases h2 : ∃ j, j < i ∧ b ≤ lb (worL S) j
      · obtain ⟨j, hj, hjb⟩ := h2
        exact ih j hj (by omega) hjb
      · refine ⟨i, hi, fun j hj => ?_, hb⟩
        rcases Nat.lt_or_ge (lb (worL S) j) b with h | h
        · exact h
        · exact absurd ⟨j, hj, h⟩ h2
  · refine .inr (.inl ⟨h0, fun d hd => ?_⟩)
    obtain ⟨j, hj, rfl⟩ := List.getElem_of_mem hd
    have h3 : lb (worL S) j = (worL S)[j] := by unfold lb; simp [hj]
    rw [← h3]
    rcases Nat.lt_or_ge (lb (worL S) j) b with h | h
    · exact h
    · exact absurd ⟨j, by rwa [worL_len] at hj, h⟩ h1
theorem zero_none (xs : List Nat) (w : World) : U w (.slice none 0 0) [] := U.nil_ _ _ _
theorem rd_size (S : ByteArray) (b : Nat) (h2 : 2 ≤ b) (h36 : b ≤ 36) (hl : S.size ≤ 2000) : S.size ≤ 19000 ∧ (limbs (b ^ S.size)).length ≤ 398 := ⟨by omega, pow36 b _ h36 hl⟩

theorem tell_good (S : ByteArray) (b : Nat) (h2 : 2 ≤ b) (h36 : b ≤ 36) (hl : S.size ≤ 2000) (h0 : S.size ≠ 0) (hd : ∀ d ∈ worL S, d < b) :
    RdF 18 S b (limbs (bval b (worL S))) 0 0 ∧ RdF 19 S b (limbs (bval b (worL S))) 0 0 := by
  obtain ⟨hl2, hM⟩ := rd_size S b h2 h36 hl
  refine ⟨fun w => (read_good w S b _ h2 h36 hl2 hM h0 hd rfl).mono fun e w' ⟨u, he, hu, hE⟩ => ⟨u, he, hu, hE⟩, fun w => (rread_calls w S b h2 h36 hl2 hM).mono fun e w' h => ?_⟩
  obtain ⟨hE, ⟨i, hi, _, hb, _⟩ | ⟨h, _⟩ | ⟨_, _, u, he, hu⟩⟩ := h
  · exfalso
    have := hd _ (lb_mem (worL S) i (by rw [worL_len]; exact hi))
    omega
  · exact absurd h h0
  · exact ⟨u, he, hu, hE⟩
theorem tell_empty (S : ByteArray) (b : Nat) (h2 : 2 ≤ b) (h36 : b ≤ 36) (h0 : S.size = 0) :
    RdF 18 S b [] 0 50 ∧ RdF 19 S b [] 0 50 := by
  obtain ⟨hl2, hM⟩ := rd_size S b h2 h36 (by omega)
  refine ⟨fun w => (read_calls w S b h2 h36 hl2 hM).mono fun e w' h => ?_, fun w => (rread_calls w S b h2 h36 hl2 hM).mono fun e w' h => ?_⟩
  · rcases h with ⟨i, hi, _⟩ | ⟨_, he, hw⟩ | ⟨h, _⟩
    · omega
    · exact ⟨_, he, U.nil_ _ _ _, ext_eq hw⟩
    · exact absurd h0 h
  · obtain ⟨hE, ⟨i, hi, _⟩ | ⟨_, he⟩ | ⟨h, _⟩⟩ := h
    · omega
    · exact ⟨_, he, U.nil_ _ _ _, hE⟩
    · exact absurd h0 h
theorem tell_wrong (S : ByteArray) (b i : Nat) (h2 : 2 ≤ b) (h36 : b ≤ 36) (hl : S.size ≤ 2000) (hi : i < S.size) (h1 : ∀ j, j < i → lb (worL S) j < b) (hb : b ≤ lb (worL S) i) :
    RdF 18 S b [] (i : Nat) 50 ∧ RdF 19 S b [] (i : Nat) 50 := by
  obtain ⟨hl2, hM⟩ := rd_size S b h2 h36 hl
  refine ⟨fun w => (read_wrong w S b i h2 h36 hl2 hM hi h1 hb).mono fun e w' ⟨he, hw⟩ => ⟨_, he, U.nil_ _ _ _, ext_eq hw⟩, fun w => (rread_calls w S b h2 h36 hl2 hM).mono fun e w' h => ?_⟩
  obtain ⟨hE, ⟨j, hj, hj1, hjb, he⟩ | ⟨h, _⟩ | ⟨_, hd, _⟩⟩ := h
  · have : i = j := by
      rcases Nat.lt_trichotomy i j with h | h | h
      · have := hj1 i h; omega
      · exact h
      · have := h1 j h; omega
    subst this
    exact ⟨_, he, U.nil_ _ _ _, hE⟩
  · omega
  · exfalso
    have := hd _ (lb_mem (worL S) i (by rw [worL_len]; exact hi))
    omega
theorem base_cases (z : Int) : (z < 2 ∨ 36 < z) ∨ ∃ b : Nat, z = (b : Int) ∧ 2 ≤ b ∧ b ≤ 36 := by
  by_cases h : z < 2 ∨ 36 < z
  · exact .inl h
  · exact .inr ⟨z.toNat, by omega, by omega, by omega⟩
/-- Whatever the text and the base: both read alike. -/
theorem tell_read (S : ByteArray) (z : Int) (hl : S.size ≤ 2000) : ∃ xs at_ c, RdF 18 S z xs at_ c ∧ RdF 19 S z xs at_ c := by
  rcases base_cases z with h | ⟨b, rfl, h2, h36⟩
  · exact ⟨[], 0, 1, fun w => (read_bad w (.string S) z h).mono fun e w' ⟨he, hw⟩ => ⟨_, he, U.nil_ _ _ _, ext_eq hw⟩, fun w => (rread_bad w S z h).mono fun e w' ⟨he, hw⟩ => ⟨_, he, U.nil_ _ _ _, ext_eq hw⟩⟩
  · rcases rd_cases S b with h | ⟨h0, hd⟩ | ⟨i, hi, h1, hb⟩
    · exact ⟨_, _, _, tell_empty S b h2 h36 h⟩
    · exact ⟨_, _, _, tell_good S b h2 h36 hl h0 hd⟩
    · exact ⟨_, _, _, tell_wrong S b i h2 h36 hl hi h1 hb⟩
/-- A call that writes a number. -/
def WrF (f : FuncId) (a : Nat) (z : Int) (T : ByteArray) (c : Int) : Prop :=
  ∀ w v, Un w v a → Calls Tryz.prog f #[v, .int .i64 z] w fun e w' => e = .returned (.tuple #[.string T, .int .i64 c]) ∧ Ext w w'
def CtF (f : FuncId) (a : Nat) (z : Int) (n c : Int) : Prop :=
  ∀ w v, Un w v a → Calls Tryz.prog f #[v, .int .i64 z] w fun e w' => e = .returned (.tuple #[.int .i64 n, .int .i64 c]) ∧ Ext w w'
theorem tell_text (a : Nat) (z : Int) (ha : (limbs a).length ≤ 398) : ∃ T c n d, WrF 14 a z T c ∧ WrF 15 a z T c ∧ CtF 16 a z n d ∧ CtF 17 a z n d := by
  rcases base_cases z with h | ⟨b, rfl, h2, h36⟩
  · exact ⟨⟨#[]⟩, 1, 0, 1, fun w v hu => (text_bad w v z h).mono fun e w' ⟨he, hw⟩ => ⟨he, ext_eq hw⟩, fun w v hu => (rtext_bad w v z h).mono fun e w' ⟨he, hw⟩ => ⟨he, ext_eq hw⟩, fun w v hu => (count_bad w v z h).mono fun e w' ⟨he, hw⟩ => ⟨he, ext_eq hw⟩, fun w v hu => (rcount_bad w v z h).mono fun e w' ⟨he, hw⟩ => ⟨he, ext_eq hw⟩⟩
  · exact ⟨_, 0, _, 0, fun w v hu => text_calls w v a b hu ha h2 h36, fun w v hu => rtext_calls w v a b hu ha h2 h36, fun w v hu => count_calls w v a b hu ha h2 h36, fun w v hu => rcount_calls w v a b hu ha h2 h36⟩

/-- The least of a length and a bound: how the walk writes it. -/
theorem cut_facts (S : ByteArray) (K m : Nat) (h : min S.size K = m) : (if (K : Int) < (S.size : Int) then (K : Int) else (S.size : Int)) = (m : Int) ∧ m ≤ S.size ∧ m ≤ K ∧ (S.extract 0 m).size = m := by
  refine ⟨by split <;> omega, by omega, by omega, ?_⟩
  rw [ByteArray.size_extract]; omega
end Go.Proofs.YtigdflfhepelaaaGreatDoor
/- Digits of a text, one by one; what they are worth: the laws' own questions. -/
namespace Go.Proofs.YtigdflfhepelaaaGreatDoor
open Go.RowKit
set_option linter.unusedVariables false
set_option maxHeartbeats 400000

theorem worth0 (w : World) (b n : Nat) (hb : b ≤ 36) (ds : List Nat) (h : ∀ d ∈ ds, d < 36) (hl : ds.length ≤ 1000000000) (hn : bval b ds = n) :
    Calls Tryz.prog 25 #[.string (strD ds), .int .i64 (b : Nat), .int .u64 0] w fun e w' => e = .returned (.int .u64 (n % 4294967291 : Nat)) ∧ w' = w := by
  refine (rworth_calls w b 0 hb (by decide) ds h hl).mono fun e w' ⟨he, hw⟩ => ⟨?_, hw⟩
  rw [he, Nat.zero_mul, Nat.zero_add, hn]
/-- A digit of a text. -/
theorem digit_at (w : World) (c d : Nat) (hd : d < 36) (hc : c = digB d) :
    Calls Tryz.prog 24 #[.int .u8 (c : Nat)] w fun e w' => e = .returned (.int .i64 (d : Nat)) ∧ w' = w := by
  subst hc
  have := rdigit_calls w (digB d) (by have := digB_lt hd; omega)
  rwa [worB_digB hd] at this
theorem rnat_z (w : World) (v : Value) (xs : List Nat) (h : U w v xs) (K m a : Nat) (z : Int) (hz : z = (K : Int)) (hK : K ≤ 1000000000000) (hm0 : min xs.length K = m) (ha : val (xs.take K) = a) :
    Calls Tryz.prog 13 #[v, .int .i64 z] w fun e w' => (∃ u, e = .returned u ∧ Un w' u a) ∧ Ext w w' := by
  subst hz
  subst ha
  exact rnat_calls w v xs h K m hK hm0
/-- Texts stand as their digits do. -/
theorem less_byteL (xs ys : List Nat) (hl : xs.length = ys.length) (hx : ∀ d ∈ xs, d < 36) (hy : ∀ d ∈ ys, d < 36) : Op.bytesLess (byteL xs) (byteL ys) = dl xs ys := by
  induction xs generalizing ys with
  | nil =>
    cases ys with
    | nil => rfl
    | cons y ys => simp at hl
  | cons x xs ih =>
    cases ys with
    | nil => simp at hl
    | cons y ys =>
      have ih2 := ih ys (by simpa using hl) (fun d hd => hx d (by simp [hd])) (fun d hd => hy d (by simp [hd]))
      have bx := hx x (by simp)
      have b_y := hy y (by simp)
      have e1 := digB_nat bx
      have e2 := digB_nat b_y
      have hmono : ∀ {p q : Nat}, p < 36 → q < 36 → (digB p < digB q ↔ p < q) := by
        intro p q hp hq
        unfold digB
        split <;> split <;> omega
      have hinj : ∀ {p q : Nat}, p < 36 → q < 36 → (digB p = digB q ↔ p = q) := by
        intro p q hp hq
        unfold digB
        split <;> split <;> omega
      show Op.bytesLess (UInt8.ofNat (digB x) :: byteL xs) (UInt8.ofNat (digB y) :: byteL ys) = _
      rw [Op.bytesLess, dl, ih2]
      have k1 : decide (UInt8.ofNat (digB x) < UInt8.ofNat (digB y)) = decide (x < y) := decide_eq_decide.2 (by rw [UInt8.lt_iff_toNat_lt, e1, e2]; exact hmono bx b_y)
      have k2 : (UInt8.ofNat (digB x) == UInt8.ofNat (digB y)) = decide (x = y) := by
        rw [Bool.eq_iff_iff, beq_iff_eq, decide_eq_true_eq, ← UInt8.toNat_inj, e1, e2]
        exact hinj bx b_y
      rw [k1, k2]
theorem less_strD (xs ys : List Nat) (hl : xs.length = ys.length) (hx : ∀ d ∈ xs, d < 36) (hy : ∀ d ∈ ys, d < 36) : Op.bytesLess (strD xs).toList (strD ys).toList = dl xs ys := by
  rw [ByteArray.toList_eq, ByteArray.toList_eq]
  exact less_byteL xs ys hl hx hy

/-- The law's own order of two naturals. -/
theorem less_lt {n m : Nat} (h : (limbs n).length < (limbs m).length) : n < m := by
  rcases Nat.lt_or_ge n m with h1 | h1
  · exact h1
  · have := len_mono h1; omega

set_option maxRecDepth 100000 in
set_option maxHeartbeats 4000000 in
theorem less_calls (w : World) (v u : Value) (n m : Nat) (h : Un w v n) (g : Un w u m) (p : Bool) (hp : decide (n < m) = p) :
    Calls Tryz.prog 27 #[v, u] w fun e w' => e = .returned (.bool p) ∧ Ext w w' := by
  have hvn := val_limbs n
  have hvm := val_limbs m
  have hlt1 := @less_lt n m
  have hlt2 := @less_lt m n
  have hll := fun (L : Nat) (h1 : (limbs n).length ≤ L) (h2 : (limbs m).length ≤ L) => @val_eq_of_lb (limbs n) (limbs m) L h1 h2
  have h' : U w v (limbs n) := h
  have g' : U w u (limbs m) := g
  generalize limbs n = xs at *
  generalize limbs m = ys at *
  clear h g
  obtain ⟨A, c, rfl, ⟨hc, hm⟩, hx, hr⟩ := h'
  obtain ⟨A2, c2, rfl, ⟨hc2, hm2⟩, hx2, hr2⟩ := g'
  by_cases hl : xs.length = ys.length
  · have hct : Hid (∀ k, k < xs.length → (∀ j, k < j → j < xs.length → lb xs j = lb ys j) → lb xs k < lb ys k → n < m) := fun k hk ht hlt => by
      rw [← hvn, ← hvm]
      exact cmp_top hx hx2 k xs.length (Nat.le_refl _) (by omega) hk ht hlt
    have hct2 : Hid (∀ k, k < xs.length → (∀ j, k < j → j < xs.length → lb xs j = lb ys j) → lb ys k < lb xs k → m < n) := fun k hk ht hlt => by
      rw [← hvn, ← hvm]
      exact cmp_top hx2 hx k xs.length (by omega) (Nat.le_refl _) hk (fun j h1 h2 => (ht j h1 h2).symm) hlt
    have heq : Hid ((∀ j, j < xs.length → lb xs j = lb ys j) → n = m) := fun ht => by
      rw [← hvn, ← hvm]
      exact hll xs.length (Nat.le_refl _) (by omega) ht
    have hl1 : (((xs.length : Nat) : Int) != ((ys.length : Nat) : Int)) = false := by rw [bne_eq_false_iff_eq, hl]
    have HL := Lib.hid hl
    have HP := Lib.hid hp
    have hE0 := Ext.refl w
    clear hl hp hll hlt1 hlt2 hvn hvm
    go_enter Tryz.func27, Tryz.ntmps27
    go_wp2
    go_loopw [5] (fun t wr => ∃ (k : Nat) (z : Int), k ≤ xs.length ∧ t = .int .i64 z ∧ z = (k : Int) - 1 ∧ Hid (∀ j, k ≤ j → j < xs.length → lb xs j = lb ys j) ∧ ∃ m, wr = w.drewN m) (fun t _ => (intOf t + 1).toNat)
    case atStart => exact ⟨xs.length, _, Nat.le_refl _, rfl, rfl, fun j h1 h2 => by omega, 0, rfl⟩
    case round =>
      obtain ⟨k, z, hk, rfl, hz, HT, m', rfl⟩ := hrel
      cases k with
      | zero =>
        obtain rfl : z = -1 := by omega
        clear hz
        have hq := heq.out (fun j hj => HT.out j (Nat.zero_le _) hj)
        have hf : p = false := by rw [← HP.out]; exact decide_eq_false (by omega)
        have HF := Lib.hid hf
        clear hq hf
        go_wp2
        go_ret
        exact ⟨by rw [HF.out]; rfl, ext_drewN w _⟩
      | succ j =>
        obtain rfl : z = (j : Int) := by omega
        clear hz
        obtain ⟨ad, rfl, hb, hcell⟩ := hr (by omega)
        obtain ⟨ad2, rfl, hb2, hcell2⟩ := hr2 (by have := HL.out; omega)
        have hc1 := hcell j (by omega)
        have hc3 := hcell2 j (by have := HL.out; omega)
        have hj1 : ((j : Nat) : Int) < xs.length := by omega
        have hj2 : ((j : Nat) : Int) < ys.length := by have := HL.out; omega
        by_cases he : lb xs j = lb ys j
        · have ht : ((((lb xs j : Nat)) : Int) != ((lb ys j : Nat) : Int)) = false := by rw [bne_eq_false_iff_eq, he]
          have HX := Lib.hid he
          clear he
          go_wp2
          go_quiet (fail)
          go_wp2
          go_roundw
          case rel => exact ⟨j, _, by omega, rfl, rfl, fun i h1 h2 => by
            rcases Nat.lt_or_ge j i with h3 | h3
            · exact HT.out i h3 h2
            · have : i = j := by omega
              subst this; exact HX.out, _, rfl⟩
          case measure => simp [intOf]
        · have ht : ((((lb xs j : Nat)) : Int) != ((lb ys j : Nat) : Int)) = true := by rw [bne_iff_ne]; omega
          have hf : p = decide (lb xs j < lb ys j) := by
            rw [← HP.out]
            refine decide_eq_decide.2 ⟨fun h => ?_, fun h => hct.out j (by omega) (fun i h1 h2 => HT.out i h1 h2) h⟩
            rcases Nat.lt_or_ge (lb xs j) (lb ys j) with h3 | h3
            · exact h3
            · have := hct2.out j (by omega) (fun i h1 h2 => HT.out i h1 h2) (by omega)
              omega
          have HF := Lib.hid hf
          clear he hf
          go_wp2
          go_quiet (fail)
          go_wp2
          go_quiet (fail)
          go_wp2
          go_ret
          exact ⟨by rw [HF.out]; first | done | rfl | simp, by first | exact ext_drewN w _ | (rw [World.drewN_drewN]; exact ext_drewN w _) | (rw [World.drewN_drewN, World.drewN_drewN]; exact ext_drewN w _)⟩
  · have hl1 : (((xs.length : Nat) : Int) != ((ys.length : Nat) : Int)) = true := by rw [bne_iff_ne]; omega
    have hf : p = decide (xs.length < ys.length) := by
      rw [← hp]
      refine decide_eq_decide.2 ⟨fun h => ?_, hlt1⟩
      rcases Nat.lt_or_ge xs.length ys.length with h3 | h3
      · exact h3
      · have := hlt2 (by omega); omega
    have HF := Lib.hid hf
    clear hl hf hlt1 hlt2 hll hp
    go_enter Tryz.func27, Tryz.ntmps27
    go_wp2
    go_ret
    exact ⟨by rw [HF.out]; first | done | rfl | simp, Ext.refl _⟩
end Go.Proofs.YtigdflfhepelaaaGreatDoor
/- What every statement's proof ends with: the three variables that are laid. -/
namespace Go.Proofs.YtigdflfhepelaaaGreatDoor
open Go.ChangeShapes Go.WideShapes Go.ChangeAt Go.RowKit
set_option linter.unusedVariables false
set_option maxRecDepth 100000

abbrev laidV : List (String × DataW Unit) := [("unicode/utf8.acceptRanges", Rows.laid_unicode_utf8_acceptRanges), ("ziggurat/ntt.fields", Rows.laid_ziggurat_ntt_fields), ("unicode/utf8.first", Rows.laid_unicode_utf8_first)]
theorem laid_met (os : Os) (args : Array Value) : laidMetH Tryz.prog laidV ((World.laidAll Tryz.prog os laidV).forCall (fun _ _ => 0) ⟨#[], args, []⟩).memory := by
  rw [MakeChecks.laidMetH_plain _ _ _ (by kernel_rfl)]
  exact laidMet_laidAll _ (by kernel_rfl) (by kernel_rfl)
end Go.Proofs.YtigdflfhepelaaaGreatDoor
