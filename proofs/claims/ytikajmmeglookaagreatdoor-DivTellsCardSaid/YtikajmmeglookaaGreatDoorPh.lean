/- The way of halves is right, for rows of any lengths. -/
import Derived.Test.YtikajmmeglookaaGreatDoorPg
import Derived.Deep.Cut

namespace Go.Proofs.YtikajmmeglookaaGreatDoor
open Go.RowKit
set_option linter.unusedVariables false
set_option maxHeartbeats 400000

theorem Prod.turn {w w' : World} {e : Ending} {na nb nx ny : Nat} {as_ bs xs ys : List Nat} (h : Prod w w' e nx ny xs ys) (hn : nx + ny = na + nb) (hv : wal xs * wal ys = wal as_ * wal bs) : Prod w w' e na nb as_ bs := by
  obtain ⟨g, c, o, he, ho, hv', hl⟩ := h
  rw [hn] at he ho
  exact ⟨g, c, o, he, ho, by rw [hv', hv], hl⟩
theorem Prod.base {w0 w w' : World} {e : Ending} {na nb : Nat} {as_ bs : List Nat} (h : Prod w w' e na nb as_ bs) (hB : Ext w0 w) : Prod w0 w' e na nb as_ bs := by
  obtain ⟨g, c, o, he, ho, hv', hl⟩ := h
  exact ⟨g, c, o, he, ho.base_mono hB.size, hv', hl⟩

theorem keepW {x y : World} {B : Nat} {v0 v1 v2 : Value} (h : B < x.heap.size ∧ x.cell? ⟨B, 0, none⟩ = some v0 ∧ x.cell? ⟨B, 1, none⟩ = some v1 ∧ x.cell? ⟨B, 2, none⟩ = some v2) (hB : Ext x y) :
    B < y.heap.size ∧ y.cell? ⟨B, 0, none⟩ = some v0 ∧ y.cell? ⟨B, 1, none⟩ = some v1 ∧ y.cell? ⟨B, 2, none⟩ = some v2 := by
  obtain ⟨h0, h1, h2, h3⟩ := h
  have hc := fun o => hB.cell (p := ⟨B, o, none⟩) h0
  exact ⟨Nat.lt_of_lt_of_le h0 hB.size, by rw [hc]; exact h1, by rw [hc]; exact h2, by rw [hc]; exact h3⟩
theorem keepWB {x y : World} {B g : Nat} {v0 v1 v2 : Value} (h : B < x.heap.size ∧ x.cell? ⟨B, 0, none⟩ = some v0 ∧ x.cell? ⟨B, 1, none⟩ = some v1 ∧ x.cell? ⟨B, 2, none⟩ = some v2) (hB : But g x y) (hne : B ≠ g) :
    B < y.heap.size ∧ y.cell? ⟨B, 0, none⟩ = some v0 ∧ y.cell? ⟨B, 1, none⟩ = some v1 ∧ y.cell? ⟨B, 2, none⟩ = some v2 := by
  obtain ⟨h0, h1, h2, h3⟩ := h
  have hc := fun o => hB.cell (p := ⟨B, o, none⟩) h0 hne
  exact ⟨Nat.lt_of_lt_of_le h0 hB.size, by rw [hc]; exact h1, by rw [hc]; exact h2, by rw [hc]; exact h3⟩
/-- The product of the first a words is there. -/
structure TmI (xs ys : List Nat) (n a : Nat) (o : List Nat) : Prop where
  len : o.length = n
  lt : ∀ x ∈ o, x < 18446744073709551616
  val : wal o = wal (xs.take a) * wal ys

set_option maxRecDepth 100000 in
set_option maxHeartbeats 8000000 in
theorem times_core (N : Nat) (hN : N ≤ 20000) (IH : TOk N) (b : Bool) (w : World) (q1 q2 : Nat) (vx vy : Value) (xs ys : List Nat) (nx ny : Nat) (hx : V q1 w vx xs) (hy : V q2 w vy ys) (hnx : xs.length = nx) (hny : ys.length = ny) (hle : ny ≤ nx) (hb : b = true → ny < nx) (hsum : nx + ny ≤ N) :
    Calls Tryz.prog 76 #[Wh, (if b then vy else vx), (if b then vx else vy)] w fun e w' => Prod w w' e nx ny xs ys ∧ Ext w w' := by
  have IHH := Lib.hid IH
  have hle' := hle
  obtain ⟨A, ca, rfl, hca⟩ := hx.shape
  obtain ⟨A2, cb, rfl, hcb⟩ := hy.shape
  rw [hnx] at hx hca ⊢
  rw [hny] at hy hcb ⊢
  have hE0 : Ext w (w.alloc (.cells #[.int .i64 40, .func (.func 91) #[] #[], .func (.func 72) #[] #[]] 81)) := (Ext.refl w).alloc _
  replace hx := hx.below hE0
  replace hy := hy.below hE0
  have HL : Hid (xs.length = nx ∧ ys.length = ny) := ⟨hnx, hny⟩
  clear IH hnx hny
  have hb0 : w.heap.size < (w.alloc (.cells #[.int .i64 40, .func (.func 91) #[] #[], .func (.func 72) #[] #[]] 81)).heap.size := by simp
  have hc0 : (w.alloc (.cells #[.int .i64 40, .func (.func 91) #[] #[], .func (.func 72) #[] #[]] 81)).cell? ⟨w.heap.size, 0, none⟩ = some (.int .i64 40) := by go_simp
  have hc1 : (w.alloc (.cells #[.int .i64 40, .func (.func 91) #[] #[], .func (.func 72) #[] #[]] 81)).cell? ⟨w.heap.size, 1, none⟩ = some (.func (.func 91) #[] #[]) := by go_simp
  have hc2 : (w.alloc (.cells #[.int .i64 40, .func (.func 91) #[] #[], .func (.func 72) #[] #[]] 81)).cell? ⟨w.heap.size, 2, none⟩ = some (.func (.func 72) #[] #[]) := by go_simp
  obtain ⟨B, hB⟩ : ∃ B, w.heap.size = B := ⟨_, rfl⟩
  rw [hB] at hc0 hc1 hc2 hb0
  have HBS := Lib.hid hB
  cases b
  case' false =>
    show Calls Tryz.prog 76 #[Wh, .slice A nx ca, .slice A2 ny cb] w _
    have hd : decide ((nx : Int) < (ny : Int)) = false := by rw [decide_eq_false_iff_not]; omega
    go_enter Tryz.func76, Tryz.ntmps76
    go_upto_region 3 with (fail)
  case' true =>
    show Calls Tryz.prog 76 #[Wh, .slice A2 ny cb, .slice A nx ca] w _
    have hlt := hb rfl
    have hd : decide ((ny : Int) < (nx : Int)) = true := by rw [decide_eq_true_iff]; omega
    go_enter Tryz.func76, Tryz.ntmps76
    go_upto_region 3 with (fail)
  all_goals
    clear hb hd hle
    generalize (w.alloc (.cells #[.int .i64 40, .func (.func 91) #[] #[], .func (.func 72) #[] #[]] 81)) = W1 at *
    by_cases h1 : ny < 40
    · have hd1 : decide ((ny : Int) < 40) = true := by rw [decide_eq_true_iff]; omega
      go_wp2_with (fail)
      refine (rows_calls _ q1 q2 _ _ xs ys hx hy nx ny HL.out.1 HL.out.2 (by omega)).mono ?_
      rintro e w2 ⟨hp, hB2⟩
      replace hp := hp.base hE0
      have hE2 := hE0.below hB2
      have HP := Lib.hid hp
      obtain ⟨g, c, o, rfl, _⟩ := hp
      go_wp2
      go_ret
      exact ⟨HP.out, hE2⟩
    · have hd1 : decide ((ny : Int) < 40) = false := by rw [decide_eq_false_iff_not]; omega
      by_cases h2 : nx < 2 * ny
      · have hd2 : decide ((nx : Int) < 2 * (ny : Int)) = true := by rw [decide_eq_true_iff]; omega
        go_wp2_with (fail)
        refine (halves_calls N IHH.out _ q1 q2 _ _ xs ys hx hy nx ny HL.out.1 HL.out.2 hle' h2 (by omega) hsum (by omega)).mono ?_
        rintro e w2 ⟨hp, hB2⟩
        replace hp := hp.base hE0
        have hE2 := hE0.below hB2
        have HP := Lib.hid hp
        obtain ⟨g, c, o, rfl, _⟩ := hp
        go_wp2
        go_ret
        exact ⟨HP.out, hE2⟩
      · have hd2 : decide ((nx : Int) < 2 * (ny : Int)) = false := by rw [decide_eq_false_iff_not]; omega
        have hny0 : 0 < ny := by omega
        obtain ⟨ad, cx, hvx, hcx, hbx, hnex, hcellx⟩ := hx.opened HL.out.1 (by omega)
        injection hvx with w1 w2 w3
        subst w1 w3
        clear w2 hcellx hnex hbx hcx
        obtain ⟨n, hn⟩ : ∃ n, nx + ny = n := ⟨_, rfl⟩
        have hni : (nx : Int) + (ny : Int) = (n : Int) := by omega
        obtain ⟨i0, hi, hz0, hz1, hz2⟩ := info_parts info64
        obtain ⟨Bz, hBz⟩ : ∃ Bz, W1.heap.size = Bz := ⟨_, rfl⟩
        have HBZ := Lib.hid hBz
        go_wp2_with (at_make; refine wpList_make_full _ rfl _ _ 69 rfl W1.heap.size 56 i0 (.int .u64 0) 1 Tryz.underlying69 hi hz0 hz1 _ _ _ _ n rfl rfl (by omega) (by omega) (by rw [hz2]; omega) (by unfold maxLen; omega) (Nat.le_refl _) ?_; intro w2 hown hgrow)
        have ho0 := Ow.zeros hown
        have hE2 : Ext W1 w2 := (Ext.refl W1).grown hgrow (Nat.le_refl _) (fun _ h => by cases h)
        rw [hBz] at ho0 hb0
        clear hown hgrow hi hz0 hz1 hz2 i0
        go_wp2_with (fail)
        have hTM0 : Hid (TmI xs ys n 0 (List.replicate n 0)) := ⟨by simp, fun x hx => by simp at hx; omega, by simp [wal_zeros, wal]⟩
        have hlimx := Lib.hid hx.lim
        have hlimy := Lib.hid hy.lim
        have hny2 : 2 * ny ≤ nx := by omega
        clear hd1 hd2 h1 h2 hni hBz
        go_loopw [8] (fun t wr => ∃ (a : Nat) (o : List Nat), a ≤ n ∧ t = .int .i64 (a : Nat) ∧ Hid (TmI xs ys n a o) ∧ Ow wr Bz (.slice (some ⟨Bz, 0, none⟩) n n) o ∧ Ext W1 wr) (fun t _ => nx - (intOf t).toNat)
        case atStart => exact ⟨0, _, Nat.zero_le _, rfl, hTM0, ho0, hE2⟩
        case round =>
          clear hTM0 ho0 hE2
          obtain ⟨a, o, han, rfl, HO, hown, hE⟩ := hrel
          by_cases hlt : a < nx
          · obtain ⟨e, he⟩ : ∃ e, min (a + ny) nx = e := ⟨_, rfl⟩
            obtain ⟨p, hpe⟩ : ∃ p, e - a = p := ⟨_, rfl⟩
            obtain ⟨r, hrn⟩ : ∃ r, n - a = r := ⟨_, rfl⟩
            have hmin1 : (if (nx : Int) < (a : Int) + (ny : Int) then (nx : Int) else (a : Int) + (ny : Int)) = (e : Int) := by split <;> omega
            have hmin2 : min ((a : Int) + (ny : Int)) (nx : Int) = (e : Int) := by omega
            have hmin3 : (if nx < a + ny then (nx : Int) else (a : Int) + (ny : Int)) = (e : Int) := by split <;> omega
            have f1 : a < e := by omega
            have f2 : (a : Int) < (e : Int) := by omega
            have f3 : e ≤ ca := by omega
            have f4 : (e : Int) ≤ (ca : Int) := by omega
            have f5 : (a : Int) ≤ (e : Int) := by omega
            have f6 : ¬ (e = a) := by omega
            have f7 : (0 : Int) ≤ (a : Int) := by omega
            have f8 : a < n := by omega
            have f9 : (a : Int) < (n : Int) := by omega
            have f10 : (a : Int) ≤ (n : Int) := by omega
            have f11 : ¬ (n = a) := by omega
            have f12 : e ≤ nx := by omega
            have f13 : (0 : Int) ≤ (e : Int) := by omega
            have f14 : (e : Int) ≤ (nx : Int) := by omega
            have f15 : p + ny ≤ r := by omega
            have f16 : a + r = n := by omega
            have hn6 : n ≤ 1000000 := by omega
            have hxp : V q1 wr.drew (.slice (some (ad.add a)) p p) ((xs.take e).drop a) := (((hx.below hE).take f12 (Nat.le_refl e)).drop (Nat.le_of_lt f1) hpe (Nat.le_refl _)).below (Ext.refl wr).drew
            have hyd : V q2 wr.drew (.slice A2 ny cb) ys := (hy.below hE).below (Ext.refl wr).drew
            have hlp : ((xs.take e).drop a).length = p := by rw [List.length_drop, List.length_take, HL.out.1]; omega
            have hT := Lib.hid (IHH.out wr.drew q1 q2 _ _ _ ys p ny hxp hyd hlp HL.out.2 (by omega))
            have hcut := wal_cut (xs.take e) a (by rw [List.length_take, HL.out.1]; omega)
            rw [List.take_take, Nat.min_eq_left (by omega)] at hcut
            have hHC := Lib.hid hcut
            have hTE : Hid (xs.take (a + ny) = xs.take e) := by
              rcases Nat.le_total (a + ny) nx with h | h
              · rw [Hid, ← he, Nat.min_eq_left h]
              · rw [Hid, ← he, Nat.min_eq_right h, List.take_of_length_le (by rw [HL.out.1]; exact h), List.take_of_length_le (by rw [HL.out.1]; exact Nat.le_refl _)]
            have hprod : Hid (wal (xs.take e) * wal ys < BB ^ n) := by
              have h1 := prod_lt (as_ := xs.take e) (bs := ys) (fun x h => hlimx.out x (List.mem_of_mem_take h)) hlimy.out
              refine Nat.lt_of_lt_of_le h1 (Nat.pow_le_pow_right (by decide) ?_)
              rw [List.length_take, HL.out.1, HL.out.2]; omega
            have hS0 : B < wr.drew.heap.size ∧ wr.drew.cell? ⟨B, 0, none⟩ = some (.int .i64 40) ∧ wr.drew.cell? ⟨B, 1, none⟩ = some (.func (.func 91) #[] #[]) ∧ wr.drew.cell? ⟨B, 2, none⟩ = some (.func (.func 72) #[] #[]) := by
              have hq : B < W1.heap.size := by rw [HBZ.out]; exact hb0
              have hc := fun o => hE.cell (p := ⟨B, o, none⟩) hq
              exact ⟨Nat.lt_of_lt_of_le hq hE.size, (hc 0).trans hc0, (hc 1).trans hc1, (hc 2).trans hc2⟩
            have hownD : Ow wr.drew Bz (.slice (some ⟨Bz, 0, none⟩) n n) o := hown
            generalize (xs.take e).drop a = P at *
            clear hxp hyd hcut he hown hx hy hlp f8
            go_wp2_with (fail)
            have hS0' := hS0
            go_region_held3 (fun X => B < X.heap.size ∧ X.cell? ⟨B, 0, none⟩ = some (.int .i64 40) ∧ X.cell? ⟨B, 1, none⟩ = some (.func (.func 91) #[] #[]) ∧ X.cell? ⟨B, 2, none⟩ = some (.func (.func 72) #[] #[]))
              (first
                | exact hS0
                | assumption
                | exact keepW (by assumption) (by assumption)
                | exact keepWB (by assumption) (by assumption) (by assumption))
              (first
                | (go_at_call 76; ((with_reducible refine hT.out.mono ?_); rintro e3 w3 ⟨hp, hB3⟩; obtain ⟨g3, c3, o3, rfl, ho3, hv3, hl3, hlen3⟩ := hp.open (p + ny) rfl; have hownE := hownD.ext hB3; have hg3 := ho3.block.1; have hg2b := hownD.block.2; have hV3 := ho3.toV hl3 Bz (by omega)))
                | (go_at_call 80; ((with_reducible refine (addTo_calls w3 Bz Bz n n a r r o o3 _ hownE HO.out.lt (Nat.le_of_eq f16) (Nat.le_refl _) hn6 hV3 (by rw [hlen3]; exact f15)).mono ?_); rintro e4 w4 ⟨⟨o6, cy6, rfl, hA6, ho6⟩, hB4⟩; have hBne : B ≠ Bz := Nat.ne_of_lt hb0)))
            have hval : wal o + BB ^ a * wal o3 = wal (xs.take e) * wal ys := by
              rw [HO.out.val, hv3, hHC.out, Nat.add_mul, Nat.mul_assoc]
            have hv6 := hA6.done f16 (by rw [hval]; exact hprod.out)
            rw [hval] at hv6
            have HST : Hid (TmI xs ys n (a + ny) o6) := ⟨hA6.len, hA6.lt, by rw [hTE.out]; exact hv6⟩
            have hE5 : Ext W1 w4 := (hE.drew.below hB3).but hB4 (by rw [HBZ.out]; exact Nat.le_refl _)
            clear hv6 hA6 hB4 hB3 hval hT hV3 hownE ho3 hp hHC hTE hprod hownD HO hS0 hS0'
            go_wp2
            go_roundw
            case rel => exact ⟨a + ny, _, by omega, by go_num, HST, ho6, hE5⟩
            case measure => simp [intOf]; omega
          · have hta : xs.take a = xs := List.take_of_length_le (by rw [HL.out.1]; omega)
            have HF : Hid (Prod w wr (.returned (.slice (some ⟨Bz, 0, none⟩) n n)) nx ny xs ys) := by
              refine ⟨Bz, n, o, by rw [hn], ?_, by rw [HO.out.val, hta], HO.out.lt⟩
              rw [hn]
              exact hown.base_mono (by rw [← HBZ.out]; exact hE0.size)
            have hEF := hE0.below hE
            clear hown HO hE
            go_wp2
            go_ret
            exact ⟨HF.out, hEF⟩
end Go.Proofs.YtikajmmeglookaaGreatDoor
/- Products by halves and by thirds, of limbs. -/
namespace Go.Proofs.YtikajmmeglookaaGreatDoor
open Go.RowKit
set_option linter.unusedVariables false
set_option maxHeartbeats 400000

theorem times_step (N : Nat) (hN : N ≤ 20000) (IH : TOk N) : TOk (N + 1) := by
  intro w q1 q2 va vb as_ bs na nb ha hb hna hnb hsum
  by_cases h : na < nb
  · refine (times_core N hN IH true w q2 q1 vb va bs as_ nb na hb ha hnb hna (by omega) (fun _ => h) (by omega)).mono ?_
    rintro e w' ⟨hp, hB⟩
    exact ⟨hp.turn (Nat.add_comm _ _) (Nat.mul_comm _ _), hB⟩
  · exact times_core N hN IH false w q1 q2 va vb as_ bs na nb ha hb hna hnb (by omega) (fun h => by cases h) (by omega)
theorem tok : ∀ N, N ≤ 20001 → TOk N
  | 0, _ => fun w q1 q2 va vb as_ bs na nb _ _ _ _ h => by omega
  | N + 1, h => times_step N (by omega) (tok N (by omega))
theorem times_B (w : World) (q1 q2 : Nat) (va vb : Value) (as_ bs : List Nat) (na nb : Nat) (ha : V q1 w va as_) (hb : V q2 w vb bs) (hna : as_.length = na) (hnb : bs.length = nb) (h : na + nb ≤ 20000) :
    Calls Tryz.prog 76 #[Wh, va, vb] w fun e w' => Prod w w' e na nb as_ bs ∧ Ext w w' := tok 20001 (Nat.le_refl _) w q1 q2 va vb as_ bs na nb ha hb hna hnb (by omega)

theorem byHalves_calls (w : World) : Calls Tryz.prog 75 #[] w fun e w' => e = .returned Wh ∧ Ext w w' := by
  have hE := (Ext.refl w).alloc (.cells #[.int .i64 40, .func (.func 91) #[] #[], .func (.func 72) #[] #[]] 81)
  go_enter Tryz.func75, Tryz.ntmps75
  go_wp2
  refine bodyPost_ret (v := Wh) ?_ rfl ⟨rfl, hE⟩
  simp [results, Tryz.results75, go_sem, *]

/-- The way of thirds, as the program has it. -/
abbrev Wt : Value := .agg #[.int .i64 200, .func (.func 92) #[] #[], .func (.func 76) #[Wh] #[]]
theorem byThirds_calls (w : World) : Calls Tryz.prog 77 #[] w fun e w' => e = .returned Wt ∧ Ext w w' := by
  go_enter Tryz.func77, Tryz.ntmps77
  go_wp2_with (fail)
  refine (byHalves_calls _).mono ?_
  rintro e w1 ⟨rfl, hB⟩
  have hlt : w.heap.size < (w.alloc (.cells #[.int .i64 0, .nilFunc, .nilFunc] 81)).heap.size := by simp
  have hc0 : w1.cell? ⟨w.heap.size, 0, none⟩ = some (.int .i64 0) := (hB.cell (p := ⟨w.heap.size, 0, none⟩) hlt).trans (by go_simp)
  have hc1 : w1.cell? ⟨w.heap.size, 1, none⟩ = some .nilFunc := (hB.cell (p := ⟨w.heap.size, 1, none⟩) hlt).trans (by go_simp)
  have hc2 : w1.cell? ⟨w.heap.size, 2, none⟩ = some .nilFunc := (hB.cell (p := ⟨w.heap.size, 2, none⟩) hlt).trans (by go_simp)
  have hf0 : w1.frozen? ⟨w.heap.size, 0, none⟩ = false := (hB.frozen (p := ⟨w.heap.size, 0, none⟩) hlt).trans (by go_simp)
  have hf1 : w1.frozen? ⟨w.heap.size, 1, none⟩ = false := (hB.frozen (p := ⟨w.heap.size, 1, none⟩) hlt).trans (by go_simp)
  have hf2 : w1.frozen? ⟨w.heap.size, 2, none⟩ = false := (hB.frozen (p := ⟨w.heap.size, 2, none⟩) hlt).trans (by go_simp)
  have hE := ((((Ext.refl w).alloc (.cells #[.int .i64 0, .nilFunc, .nilFunc] 81)).below hB).setCell (p := ⟨w.heap.size, 0, none⟩) (Nat.le_refl _) (.int .i64 200)).setCell (p := ⟨w.heap.size, 1, none⟩) (Nat.le_refl _) (.func (.func 92) #[] #[])
  have hE2 := hE.setCell (p := ⟨w.heap.size, 2, none⟩) (Nat.le_refl _) (.func (.func 76) #[Wh] #[])
  clear hE hB
  go_wp2
  refine bodyPost_ret (v := Wt) ?_ rfl ⟨rfl, hE2⟩
  simp [results, Tryz.results77, go_sem, *]

set_option maxRecDepth 100000 in
set_option maxHeartbeats 8000000 in
/-- The way of thirds, where the shorter row has less than 200 words. -/
theorem timesT_core (b : Bool) (w : World) (q1 q2 : Nat) (vx vy : Value) (xs ys : List Nat) (nx ny : Nat) (hx : V q1 w vx xs) (hy : V q2 w vy ys) (hnx : xs.length = nx) (hny : ys.length = ny) (hle : ny ≤ nx) (hb : b = true → ny < nx) (hsum : nx + ny ≤ 20000) (h200 : ny < 200) :
    Calls Tryz.prog 76 #[Wt, (if b then vy else vx), (if b then vx else vy)] w fun e w' => Prod w w' e nx ny xs ys ∧ Ext w w' := by
  obtain ⟨A, ca, rfl, hca⟩ := hx.shape
  obtain ⟨A2, cb, rfl, hcb⟩ := hy.shape
  rw [hnx] at hx hca ⊢
  rw [hny] at hy hcb ⊢
  have hE0 : Ext w (w.alloc (.cells #[.int .i64 200, .func (.func 92) #[] #[], .func (.func 76) #[Wh] #[]] 81)) := (Ext.refl w).alloc _
  replace hx := hx.below hE0
  replace hy := hy.below hE0
  have HL : Hid (xs.length = nx ∧ ys.length = ny) := ⟨hnx, hny⟩
  clear hnx hny
  have hd1 : decide ((ny : Int) < 200) = true := by rw [decide_eq_true_iff]; omega
  have hT := Lib.hid (times_B _ q1 q2 _ _ xs ys nx ny hx hy HL.out.1 HL.out.2 hsum)
  cases b
  case' false =>
    show Calls Tryz.prog 76 #[Wt, .slice A nx ca, .slice A2 ny cb] w _
    have hd : decide ((nx : Int) < (ny : Int)) = false := by rw [decide_eq_false_iff_not]; omega
    go_enter Tryz.func76, Tryz.ntmps76
  case' true =>
    show Calls Tryz.prog 76 #[Wt, .slice A2 ny cb, .slice A nx ca] w _
    have hlt := hb rfl
    have hd : decide ((ny : Int) < (nx : Int)) = true := by rw [decide_eq_true_iff]; omega
    go_enter Tryz.func76, Tryz.ntmps76
  all_goals
    go_wp2_with (fail)
    refine hT.out.mono ?_
    rintro e w2 ⟨hp, hB2⟩
    replace hp := hp.base hE0
    have hE2 := hE0.below hB2
    have HP := Lib.hid hp
    obtain ⟨g, c, o, rfl, _⟩ := hp
    clear hT
    go_wp2
    go_ret
    exact ⟨HP.out, hE2⟩
theorem timesT_B (w : World) (q1 q2 : Nat) (va vb : Value) (as_ bs : List Nat) (na nb : Nat) (ha : V q1 w va as_) (hb : V q2 w vb bs) (hna : as_.length = na) (hnb : bs.length = nb) (h : na + nb ≤ 20000) (h200 : min na nb < 200) :
    Calls Tryz.prog 76 #[Wt, va, vb] w fun e w' => Prod w w' e na nb as_ bs ∧ Ext w w' := by
  by_cases hlt : na < nb
  · refine (timesT_core true w q2 q1 vb va bs as_ nb na hb ha hnb hna (by omega) (fun _ => hlt) (by omega) (by omega)).mono ?_
    rintro e w' ⟨hp, hB⟩
    exact ⟨hp.turn (Nat.add_comm _ _) (Nat.mul_comm _ _), hB⟩
  · exact timesT_core false w q1 q2 va vb as_ bs na nb ha hb hna hnb (by omega) (fun h => by cases h) (by omega) (by omega)

set_option maxRecDepth 100000 in
set_option maxHeartbeats 2000000 in
theorem karat_calls (w : World) (va vb : Value) (xs ys : List Nat) (ha : U w va xs) (hb : U w vb ys) (hla : xs.length ≤ 1000) (hlb : ys.length ≤ 1000) :
    Calls Tryz.prog 57 #[va, vb] w fun e w' => (∃ u, e = .returned u ∧ Un w' u (val xs * val ys)) ∧ Ext w w' := by
  obtain ⟨na, hna⟩ : ∃ na, (xs.length + 1) / 2 = na := ⟨_, rfl⟩
  obtain ⟨nb, hnb⟩ : ∃ nb, (ys.length + 1) / 2 = nb := ⟨_, rfl⟩
  have hHW := Lib.hid (And.intro (wal_packL xs) (wal_packL ys))
  have hHP := Lib.hid (And.intro (packL_lt xs ha.lim) (packL_lt ys hb.lim))
  have hHL : Hid ((packL xs).length = na ∧ (packL ys).length = nb) := ⟨by rw [packL_len, hna], by rw [packL_len, hnb]⟩
  have hPa := Lib.hid (fun W h => pack_calls W va xs h (by omega) na hna)
  have hPb := Lib.hid (fun W h => pack_calls W vb ys h (by omega) nb hnb)
  have hna1 : na ≤ 501 := by omega
  have hnb1 : nb ≤ 501 := by omega
  have hE := Ext.refl w
  clear hna hnb
  go_enter Tryz.func57, Tryz.ntmps57
  go_wp2_with (fail)
  refine (byHalves_calls _).mono ?_
  rintro e w1 ⟨rfl, hB⟩
  replace hE := hE.below hB
  replace ha := ha.below hB
  replace hb := hb.below hB
  clear hB
  go_wp2_with (fail)
  refine (hPa.out _ ha).mono ?_
  rintro e w2 ⟨rfl, ho1, hB⟩
  replace hE := hE.below hB
  replace hb := hb.below hB
  clear hB ha
  go_wp2_with (fail)
  refine (hPb.out _ hb).mono ?_
  rintro e w3 ⟨rfl, ho2, hB⟩
  replace hE := hE.below hB
  replace ho1 := ho1.ext hB
  clear hB hb
  go_wp2_with (fail)
  refine (times_B w3 (w1.heap.size + 1) (w2.heap.size + 1) _ _ _ _ na nb (ho1.toV hHP.out.1 _ (by omega)) (ho2.toV hHP.out.2 _ (by omega)) hHL.out.1 hHL.out.2 (by omega)).mono ?_
  rintro e w4 ⟨hp, hB⟩
  obtain ⟨g, c, o, rfl, ho, hv, hl, hlen⟩ := hp.open (na + nb) rfl
  replace hE := hE.below hB
  clear hB ho1 ho2 hp
  go_wp2_with (fail)
  refine (unpack_calls w4 (g + 1) _ o (ho.toV hl _ (by omega)) (by omega)).mono ?_
  rintro e w5 ⟨⟨u, rfl, hu⟩, hB⟩
  rw [hv, hHW.out.1, hHW.out.2] at hu
  replace hE := hE.below hB
  have HF : Hid (∃ u', Ending.returned u = .returned u' ∧ Un w5 u' (val xs * val ys)) := ⟨_, rfl, hu⟩
  clear hB ho hu hv hl hlen
  go_wp2
  go_ret
  exact ⟨HF.out, hE⟩

set_option maxRecDepth 100000 in
set_option maxHeartbeats 2000000 in
theorem toom_calls (w : World) (va vb : Value) (xs ys : List Nat) (ha : U w va xs) (hb : U w vb ys) (hla : xs.length ≤ 1000) (hlb : ys.length ≤ 1000) (h398 : min xs.length ys.length ≤ 398) :
    Calls Tryz.prog 58 #[va, vb] w fun e w' => (∃ u, e = .returned u ∧ Un w' u (val xs * val ys)) ∧ Ext w w' := by
  obtain ⟨na, hna⟩ : ∃ na, (xs.length + 1) / 2 = na := ⟨_, rfl⟩
  obtain ⟨nb, hnb⟩ : ∃ nb, (ys.length + 1) / 2 = nb := ⟨_, rfl⟩
  have hHW := Lib.hid (And.intro (wal_packL xs) (wal_packL ys))
  have hHP := Lib.hid (And.intro (packL_lt xs ha.lim) (packL_lt ys hb.lim))
  have hHL : Hid ((packL xs).length = na ∧ (packL ys).length = nb) := ⟨by rw [packL_len, hna], by rw [packL_len, hnb]⟩
  have hPa := Lib.hid (fun W h => pack_calls W va xs h (by omega) na hna)
  have hPb := Lib.hid (fun W h => pack_calls W vb ys h (by omega) nb hnb)
  have hna1 : na ≤ 501 := by omega
  have hnb1 : nb ≤ 501 := by omega
  have hmin : min na nb < 200 := by omega
  have hE := Ext.refl w
  clear hna hnb
  go_enter Tryz.func58, Tryz.ntmps58
  go_wp2_with (fail)
  refine (byThirds_calls _).mono ?_
  rintro e w1 ⟨rfl, hB⟩
  replace hE := hE.below hB
  replace ha := ha.below hB
  replace hb := hb.below hB
  clear hB
  go_wp2_with (fail)
  refine (hPa.out _ ha).mono ?_
  rintro e w2 ⟨rfl, ho1, hB⟩
  replace hE := hE.below hB
  replace hb := hb.below hB
  clear hB ha
  go_wp2_with (fail)
  refine (hPb.out _ hb).mono ?_
  rintro e w3 ⟨rfl, ho2, hB⟩
  replace hE := hE.below hB
  replace ho1 := ho1.ext hB
  clear hB hb
  go_wp2_with (fail)
  refine (timesT_B w3 (w1.heap.size + 1) (w2.heap.size + 1) _ _ _ _ na nb (ho1.toV hHP.out.1 _ (by omega)) (ho2.toV hHP.out.2 _ (by omega)) hHL.out.1 hHL.out.2 (by omega) (by omega)).mono ?_
  rintro e w4 ⟨hp, hB⟩
  obtain ⟨g, c, o, rfl, ho, hv, hl, hlen⟩ := hp.open (na + nb) rfl
  replace hE := hE.below hB
  clear hB ho1 ho2 hp
  go_wp2_with (fail)
  refine (unpack_calls w4 (g + 1) _ o (ho.toV hl _ (by omega)) (by omega)).mono ?_
  rintro e w5 ⟨⟨u, rfl, hu⟩, hB⟩
  rw [hv, hHW.out.1, hHW.out.2] at hu
  replace hE := hE.below hB
  have HF : Hid (∃ u', Ending.returned u = .returned u' ∧ Un w5 u' (val xs * val ys)) := ⟨_, rfl, hu⟩
  clear hB ho hu hv hl hlen
  go_wp2
  go_ret
  exact ⟨HF.out, hE⟩
end Go.Proofs.YtikajmmeglookaaGreatDoor
/- Products of limbs by school. -/
namespace Go.Proofs.YtikajmmeglookaaGreatDoor
open Go.RowKit
set_option linter.unusedVariables false
set_option maxHeartbeats 400000

def LB : Nat := 4294967296
theorem lval_set (o : List Nat) (j x : Nat) (h : j < o.length) : val (o.set j x) + LB ^ j * lb o j = val o + LB ^ j * x := by
  rw [Nat.mul_comm (LB ^ j), Nat.mul_comm (LB ^ j)]; exact val_set o j x h
theorem lval_take_succ (xs : List Nat) (i : Nat) (h : i < xs.length) : val (xs.take (i + 1)) = val (xs.take i) + LB ^ i * lb xs i := by
  rw [Nat.mul_comm]; exact val_take_succ xs i h
theorem ladd_step (P S S' x y c d A v : Nat) (hset : S' + P * x = S + P * v) (hinv : S + P * c = A) (hd : x + y + c = v + LB * d) : S' + P * LB * d = A + P * y := by
  have h1 : P * (x + y + c) = P * (v + LB * d) := by rw [hd]
  rw [Nat.mul_add, Nat.mul_add, Nat.mul_add, ← Nat.mul_assoc] at h1
  omega
/-- The first i limbs, times y, are added. -/
structure LwI (o0 : List Nat) (n off : Nat) (A : Nat) (i : Nat) (o : List Nat) (cy : Nat) : Prop where
  len : o.length = n
  lt : ∀ x ∈ o, x < 4294967296
  cy1 : cy < 4294967296
  val : val o + LB ^ (off + i) * cy = A
  out : ∀ m, off + i ≤ m → lb o m = lb o0 m
theorem LwI.step {o0 : List Nat} {n off A i : Nat} {o : List Nat} {cy : Nat} (h : LwI o0 n off A i o cy) (hi : off + i < n) (t s d : Nat)
    (hs : lb o (off + i) + t + cy = s + LB * d) (hsb : s < 4294967296) (hd : d < 4294967296) : LwI o0 n off (A + LB ^ (off + i) * t) (i + 1) (o.set (off + i) s) d := by
  refine ⟨by simp [h.len], set_lt h.lt hsb, hd, ?_, fun m hm => ?_⟩
  · rw [← Nat.add_assoc, Nat.pow_succ]
    exact ladd_step _ _ _ _ _ _ _ _ _ (lval_set o (off + i) s (by rw [h.len]; exact hi)) h.val hs
  · rw [lb_set_other _ (by omega)]; exact h.out m (by omega)
/-- The product of the first i limbs is there, and nothing behind it. -/
structure LsI (as_ bs : List Nat) (n : Nat) (i : Nat) (o : List Nat) : Prop where
  len : o.length = n
  lt : ∀ x ∈ o, x < 4294967296
  val : val o = val as_ * val (bs.take i)
  out : ∀ m, i + as_.length ≤ m → lb o m = 0
theorem limb_math (t z cr s d u : Nat) (ht : t ≤ 18446744065119617025) (hz : z < 4294967296) (hc : cr < 4294967296) (hu : cr + (t + z) = u) (hs : u % 4294967296 = s) (hd : u / 4294967296 = d) :
    z + t + cr = s + LB * d ∧ s < 4294967296 ∧ d < 4294967296 ∧ u < 18446744073709551616 ∧ t + z < 18446744073709551616 := by
  unfold LB
  refine ⟨by omega, by omega, by omega, by omega, by omega⟩

set_option maxRecDepth 100000 in
set_option maxHeartbeats 8000000 in
theorem school_core (b : Bool) (w : World) (vx vy : Value) (xs ys : List Nat) (nx ny : Nat) (hx : U w vx xs) (hy : U w vy ys) (hnx : xs.length = nx) (hny : ys.length = ny) (hle : ny ≤ nx) (hb : b = true → ny < nx) (h12 : ny < 12) (hn : nx ≤ 1000) :
    Calls Tryz.prog 56 #[(if b then vy else vx), (if b then vx else vy)] w fun e w' => (∃ u, e = .returned u ∧ Un w' u (val xs * val ys)) ∧ Ext w w' := by
  obtain ⟨A, ca, rfl, ⟨hca, hma⟩, hxl, hxr⟩ := id hx
  obtain ⟨A2, cb, rfl, ⟨hcb, hmb⟩, hyl, hyr⟩ := id hy
  have HL : Hid (xs.length = nx ∧ ys.length = ny) := ⟨hnx, hny⟩
  have HTX := Lib.hid (fun k => lval_take_succ xs k)
  have HTY := Lib.hid (fun k => lval_take_succ ys k)
  have HT2 : Hid (xs.take nx = xs ∧ ys.take ny = ys) := ⟨by rw [← hnx]; exact List.take_length, by rw [← hny]; exact List.take_length⟩
  rw [hnx] at hca hma hxr ⊢
  rw [hny] at hcb hmb hyr ⊢
  obtain ⟨n, hnn⟩ : ∃ n, nx + ny = n := ⟨_, rfl⟩
  have hni : (nx : Int) + (ny : Int) = (n : Int) := by omega
  have hm1 : (if (ny : Int) < (nx : Int) then (ny : Int) else (nx : Int)) = (ny : Int) := by split <;> omega
  have hm2 : (if (nx : Int) < (ny : Int) then (nx : Int) else (ny : Int)) = (ny : Int) := by split <;> omega
  have hm3 : (if ny < nx then (ny : Int) else (nx : Int)) = (ny : Int) := by split <;> omega
  have hm4 : (if nx < ny then (nx : Int) else (ny : Int)) = (ny : Int) := by split <;> omega
  have hd12 : decide ((12 : Int) ≤ (ny : Int)) = false := by rw [decide_eq_false_iff_not]; omega
  obtain ⟨i0, hi, hz0, hz1, hz2⟩ := info_parts info32
  obtain ⟨B, hB⟩ : ∃ B, w.heap.size = B := ⟨_, rfl⟩
  have HBS := Lib.hid hB
  have hlt : b = true → ny < nx := hb
  clear hx hy hnx hny hb
  cases b
  case' false =>
    show Calls Tryz.prog 56 #[.slice A nx ca, .slice A2 ny cb] w _
    have hd : decide ((nx : Int) < (ny : Int)) = false := by rw [decide_eq_false_iff_not]; omega
    go_enter Tryz.func56, Tryz.ntmps56
    go_upto_region 5 with (fail)
  case' true =>
    show Calls Tryz.prog 56 #[.slice A2 ny cb, .slice A nx ca] w _
    have hlt' := hlt rfl
    have hd : decide ((ny : Int) < (nx : Int)) = true := by rw [decide_eq_true_iff]; omega
    go_enter Tryz.func56, Tryz.ntmps56
    go_upto_region 5 with (fail)
  all_goals
    clear hd hm1 hm2 hm3 hm4 hd12 hlt
    go_wp2_with (at_make; refine wpList_make_full _ rfl _ _ 22 rfl w.heap.size 23 i0 (.int .u32 0) 1 Tryz.underlying22 hi hz0 hz1 _ _ _ _ n rfl rfl (by omega) (by omega) (by rw [hz2]; omega) (by unfold maxLen; omega) (Nat.le_refl _) ?_; intro w1 hown hgrow)
    have ho0 : Own w1 w.heap.size (.slice (some ⟨w.heap.size, 0, none⟩) n n) (List.replicate n 0) := by
      have := Own.zeros hown
      rwa [List.length_replicate] at this
    have hE0 : Ext w w1 := (Ext.refl w).grown hgrow (Nat.le_refl _) (fun _ h => by cases h)
    rw [hB] at ho0
    clear hown hgrow hi hz0 hz1 hz2 i0
    have hS0 : Hid (LsI xs ys n 0 (List.replicate n 0)) := ⟨by simp, fun x hx => by simp at hx; omega, by simp [val_replicate_zero, val], fun m _ => lb_zeros _ _⟩
    go_wp2
    go_loopw [39] (fun t wr => ∃ (i : Nat) (o : List Nat), i ≤ ny ∧ t = .int .i64 (i : Nat) ∧ Hid (LsI xs ys n i o) ∧ Own wr B (.slice (some ⟨B, 0, none⟩) n n) o ∧ Ext w wr) (fun t _ => ny - (intOf t).toNat)
    case atStart => exact ⟨0, _, Nat.zero_le _, rfl, hS0, ho0, hE0⟩
    case round =>
      clear hS0 ho0 hE0
      obtain ⟨i, o, hib, rfl, HO, hown, hE⟩ := hrel
      by_cases hlt : i < ny
      · obtain ⟨ad2, rfl, hb2, hcell2⟩ := hyr (by omega)
        obtain ⟨ad, rfl, hb1, hcell1⟩ := hxr (by omega)
        have hc0 := (hE.cell (p := ad2.add i) (by rw [addr_add_block]; exact hb2)).trans (hcell2 i hlt)
        have hyb := lb_lt hyl i
        have hty := HTY.out i (by rw [HL.out.2]; exact hlt)
        obtain ⟨y, hyy⟩ : ∃ y, lb ys i = y := ⟨_, rfl⟩
        rw [hyy] at hc0 hyb hty
        have g1 : i < n := by omega
        have g2 : (i : Int) < (n : Int) := by omega
        have g3 : (i : Int) ≤ (i : Int) + (nx : Int) := by omega
        have g4 : (i : Int) + (nx : Int) ≤ (n : Int) := by omega
        have g5 : (0 : Int) ≤ (i : Int) := by omega
        have g6 : ((i : Int) + (nx : Int)).toNat = i + nx := by omega
        have g7 : i + nx - i = nx := by omega
        have g8 : ¬ (n = i) := by omega
        have g9 : IntKind.i64.wrap ((i : Int) + (nx : Int)) = (i : Int) + (nx : Int) := IntWalk.i64_in _ (by omega)
        have g10 : (0 : Int) ≤ (i : Int) + (nx : Int) := by omega
        go_wp2_with (fail)
        go_quiet (fail)
        go_wp2_with (fail)
        have HS1 : Hid (LwI o n i (val o + LB ^ i * (val (xs.take 0) * y)) 0 o 0) := ⟨HO.out.len, HO.out.lt, by decide, by simp [val], fun m _ => rfl⟩
        have hEd : Ext w (wr.drewN nq) := hE.below (ext_drewN _ _)
        have hownd : Own (wr.drewN nq) B (.slice (some ⟨B, 0, none⟩) n n) o := hown.ext (ext_drewN _ _)
        have HTYI : Hid (val (ys.take (i + 1)) = val (ys.take i) + LB ^ i * y) := hty
        have hno : Hid (lb o (i + nx) = 0) := HO.out.out _ (by rw [HL.out.1]; exact Nat.le_refl _)
        clear hyy hc0 hown hE hty
        go_loopw [53, 8] (fun t s wx => ∃ (j : Nat) (o2 : List Nat) (cy : Nat), j ≤ nx ∧ t = .int .i64 (j : Nat) ∧ s = .int .u64 (cy : Nat) ∧ Hid (LwI o n i (val o + LB ^ i * (val (xs.take j) * y)) j o2 cy) ∧ Own wx B (.slice (some ⟨B, 0, none⟩) n n) o2 ∧ Ext w wx) (fun t _ _ => nx - (intOf t).toNat)
        case atStart => exact ⟨0, o, 0, Nat.zero_le _, rfl, rfl, HS1, hownd, hEd⟩
        case round =>
          clear HS1 hownd hEd
          obtain ⟨j, o2, cy, hj, rfl, rfl, HW, hown, hE⟩ := hrel
          by_cases hjt : j < nx
          · have hc1 := (hE.cell (p := ad.add j) (by rw [addr_add_block]; exact hb1)).trans (hcell1 j hjt)
            have hxb := lb_lt hxl j
            have htk := HTX.out j (by rw [HL.out.1]; exact hjt)
            have hcz := hown.rd.2 (i + j) (by rw [HW.out.len]; omega)
            have hf := hown.frozen' (i + j)
            have hzb := lb_lt HW.out.lt (i + j)
            have hcy := HW.out.cy1
            obtain ⟨x, hxx⟩ : ∃ x, lb xs j = x := ⟨_, rfl⟩
            rw [hxx] at hc1 hxb htk
            obtain ⟨z, hzz⟩ : ∃ z, lb o2 (i + j) = z := ⟨_, rfl⟩
            rw [hzz] at hcz hzb
            obtain ⟨t, ht⟩ : ∃ t, x * y = t := ⟨_, rfl⟩
            have ht1 : t ≤ 18446744065119617025 := by rw [← ht]; exact sq_lt hxb hyb
            have hti : (x : Int) * (y : Int) = (t : Int) := by rw [← ht, Int.natCast_mul]
            obtain ⟨u, hu⟩ : ∃ u, cy + (t + z) = u := ⟨_, rfl⟩
            obtain ⟨s, hs⟩ : ∃ s, u % 4294967296 = s := ⟨_, rfl⟩
            obtain ⟨d, hd⟩ : ∃ d, u / 4294967296 = d := ⟨_, rfl⟩
            obtain ⟨hm, hsb, hdb, hub, htz⟩ := limb_math t z cy s d u ht1 hzb hcy hu hs hd
            have hst := HW.out.step (by omega) t s d (by rw [hzz]; exact hm) hsb hdb
            rw [Nat.add_assoc (val o), Nat.pow_add, Nat.mul_assoc, ← Nat.mul_add, ← ht, ← Nat.mul_assoc, ← Nat.add_mul, ← htk] at hst
            have HST := Lib.hid hst
            have hown2 := hown.set' (i + j) s
            have hE2 := hE.setCell (p := ⟨B, i + j, none⟩) (by rw [HBS.out]; exact Nat.le_refl _) (.int .u32 (s : Nat))
            have q1 : IntKind.u64.wrap (t : Int) = (t : Int) := by rw [IntKind.wrap_u64]; omega
            have q2 : IntKind.u64.wrap ((t : Int) + (z : Int)) = (t : Int) + (z : Int) := by rw [IntKind.wrap_u64]; omega
            have q3 : (cy : Int) + ((t : Int) + (z : Int)) = (u : Int) := by omega
            have q4 : IntKind.u64.wrap (u : Int) = (u : Int) := by rw [IntKind.wrap_u64]; omega
            have q5 : IntKind.u32.wrap (u : Int) = (s : Int) := by rw [IntKind.wrap_u32]; omega
            have q6 : (u : Int) % 4294967296 = (s : Int) := by omega
            have q7 : (u : Int) / 4294967296 = (d : Int) := by omega
            have q8 : IntKind.u64.wrap (x : Int) = (x : Int) := by rw [IntKind.wrap_u64]; omega
            have q9 : IntKind.u64.wrap (y : Int) = (y : Int) := by rw [IntKind.wrap_u64]; omega
            have q10 : IntKind.u64.wrap (z : Int) = (z : Int) := by rw [IntKind.wrap_u64]; omega
            have q11 : (u : Int) % 18446744073709551616 = (u : Int) := by omega
            have q12 : (t : Int) % 18446744073709551616 = (t : Int) := by omega
            have q13 : ((t : Int) + (z : Int)) % 18446744073709551616 = (t : Int) + (z : Int) := by omega
            have hbn : (ad.add j).block ≠ B := by rw [addr_add_block]; have := HBS.out; omega
            clear hst htk hxx hzz ht hu hs hd hm hown hE HW hxb hzb ht1 hcy
            go_wp2
            go_roundw
            case rel => exact ⟨j + 1, _, d, by omega, by go_num, rfl, HST, hown2, hE2⟩
            case measure => simp [intOf]; omega
          · obtain rfl : j = nx := by omega
            have hcz := hown.rd.2 (i + j) (by rw [HW.out.len]; omega)
            have hf := hown.frozen' (i + j)
            have hl0 : lb o2 (i + j) = 0 := by rw [HW.out.out _ (Nat.le_refl _)]; exact hno.out
            have hws := lval_set o2 (i + j) cy (by rw [HW.out.len]; omega)
            rw [hl0, Nat.mul_zero, Nat.add_zero, HW.out.val, HT2.out.1] at hws
            have hcz' : (Value.int .u32 (lb o2 (i + j) : Nat)) = .int .u32 0 := by rw [hl0]; rfl
            rw [hcz'] at hcz
            have hcyb := HW.out.cy1
            have q5 : IntKind.u32.wrap (cy : Int) = (cy : Int) := by rw [IntKind.wrap_u32]; omega
            have q6 : (cy : Int) % 4294967296 = (cy : Int) := by omega
            have hown2 := hown.set' (i + j) cy
            have hE2 := hE.setCell (p := ⟨B, i + j, none⟩) (by rw [HBS.out]; exact Nat.le_refl _) (.int .u32 (cy : Nat))
            have HST : Hid (LsI xs ys n (i + 1) (o2.set (i + j) cy)) := by
              refine ⟨by rw [List.length_set]; exact HW.out.len, set_lt HW.out.lt hcyb, ?_, fun m hm => ?_⟩
              · rw [hws, HTYI.out, Nat.mul_add, ← HO.out.val, Nat.mul_left_comm]
              · rw [HL.out.1] at hm
                rw [lb_set_other _ (by omega), HW.out.out _ (by omega)]
                exact HO.out.out m (by rw [HL.out.1]; omega)
            have g12 : (i : Int) + (j : Int) < (n : Int) := by omega
            have g13 : i + j < n := by omega
            clear hl0 hws hcz' hown hE HW hcyb HTYI hno
            go_wp2
            go_roundw
            case rel => exact ⟨i + 1, _, by omega, by go_num, HST, hown2, hE2⟩
            case measure => simp [intOf]; omega
      · obtain rfl : i = ny := by omega
        have hu := hown.toU HO.out.lt (by rw [HO.out.len]; omega)
        have hvv := HO.out.val
        rw [HT2.out.2] at hvv
        have HV := Lib.hid hvv
        clear hown HO hvv
        go_wp2_with (fail)
        refine (trim32_calls _ _ _ hu).mono ?_
        rintro e w2 ⟨⟨u, rfl, hu2⟩, rfl⟩
        rw [HV.out] at hu2
        have HF : Hid (∃ u', Ending.returned u = .returned u' ∧ Un wr u' (val xs * val ys)) := ⟨_, rfl, hu2⟩
        clear hu2 hu
        go_wp2
        go_ret
        exact ⟨HF.out, hE⟩
end Go.Proofs.YtikajmmeglookaaGreatDoor
/- Products by school; sums of products, carried. -/
namespace Go.Proofs.YtikajmmeglookaaGreatDoor
open Go.RowKit
set_option linter.unusedVariables false
set_option maxHeartbeats 400000

set_option maxRecDepth 100000 in
set_option maxHeartbeats 2000000 in
theorem school_big (w : World) (va vb : Value) (xs ys : List Nat) (ha : U w va xs) (hb : U w vb ys) (hla : xs.length ≤ 1000) (hlb : ys.length ≤ 1000) (h12 : 12 ≤ min xs.length ys.length) :
    Calls Tryz.prog 56 #[va, vb] w fun e w' => (∃ u, e = .returned u ∧ Un w' u (val xs * val ys)) ∧ Ext w w' := by
  obtain ⟨A, ca, rfl, hca⟩ := ha.shape
  obtain ⟨A2, cb, rfl, hcb⟩ := hb.shape
  obtain ⟨na, hna⟩ : ∃ na, (xs.length + 1) / 2 = na := ⟨_, rfl⟩
  obtain ⟨nb, hnb⟩ : ∃ nb, (ys.length + 1) / 2 = nb := ⟨_, rfl⟩
  have hHW := Lib.hid (And.intro (wal_packL xs) (wal_packL ys))
  have hHP := Lib.hid (And.intro (packL_lt xs ha.lim) (packL_lt ys hb.lim))
  have hHL : Hid ((packL xs).length = na ∧ (packL ys).length = nb) := ⟨by rw [packL_len, hna], by rw [packL_len, hnb]⟩
  have hPa := Lib.hid (fun W h => pack_calls W (.slice A xs.length ca) xs h (by omega) na hna)
  have hPb := Lib.hid (fun W h => pack_calls W (.slice A2 ys.length cb) ys h (by omega) nb hnb)
  have hna1 : na ≤ 501 := by omega
  have hnb1 : nb ≤ 501 := by omega
  generalize xs.length = lx at *
  generalize ys.length = ly at *
  obtain ⟨m, hm⟩ : ∃ m, min lx ly = m := ⟨_, rfl⟩
  have hm1 : (if (ly : Int) < (lx : Int) then (ly : Int) else (lx : Int)) = (m : Int) := by split <;> omega
  have hm3 : (if ly < lx then (ly : Int) else (lx : Int)) = (m : Int) := by split <;> omega
  have hd12 : decide ((12 : Int) ≤ (m : Int)) = true := by rw [decide_eq_true_iff]; omega
  have hE := Ext.refl w
  clear hna hnb h12 hm
  go_enter Tryz.func56, Tryz.ntmps56
  go_wp2_with (fail)
  refine (hPa.out _ ha).mono ?_
  rintro e w2 ⟨rfl, ho1, hB⟩
  replace hE := hE.below hB
  replace hb := hb.below hB
  clear hB ha
  go_wp2_with (fail)
  refine (hPb.out _ hb).mono ?_
  rintro e w3 ⟨rfl, ho2, hB⟩
  replace hE := hE.below hB
  replace ho1 := ho1.ext hB
  clear hB hb
  go_wp2_with (fail)
  refine (rows_calls w3 (w.heap.size + 1) (w2.heap.size + 1) _ _ _ _ (ho1.toV hHP.out.1 _ (by omega)) (ho2.toV hHP.out.2 _ (by omega)) na nb hHL.out.1 hHL.out.2 (by omega)).mono ?_
  rintro e w4 ⟨hp, hB⟩
  obtain ⟨g, c, o, rfl, ho, hv, hl, hlen⟩ := hp.open (na + nb) rfl
  replace hE := hE.below hB
  clear hB ho1 ho2 hp
  go_wp2_with (fail)
  refine (unpack_calls w4 (g + 1) _ o (ho.toV hl _ (by omega)) (by omega)).mono ?_
  rintro e w5 ⟨⟨u, rfl, hu⟩, hB⟩
  rw [hv, hHW.out.1, hHW.out.2] at hu
  replace hE := hE.below hB
  have HF : Hid (∃ u', Ending.returned u = .returned u' ∧ Un w5 u' (val xs * val ys)) := ⟨_, rfl, hu⟩
  clear hB ho hu hv hl hlen
  go_wp2
  go_ret
  exact ⟨HF.out, hE⟩
theorem school_calls (w : World) (va vb : Value) (xs ys : List Nat) (ha : U w va xs) (hb : U w vb ys) (hla : xs.length ≤ 1000) (hlb : ys.length ≤ 1000) :
    Calls Tryz.prog 56 #[va, vb] w fun e w' => (∃ u, e = .returned u ∧ Un w' u (val xs * val ys)) ∧ Ext w w' := by
  by_cases h : 12 ≤ min xs.length ys.length
  · exact school_big w va vb xs ys ha hb hla hlb h
  · by_cases hlt : xs.length < ys.length
    · have := school_core true w vb va ys xs _ _ hb ha rfl rfl (by omega) (fun _ => hlt) (by omega) hlb
      rw [Nat.mul_comm (val ys)] at this
      exact this
    · exact school_core false w va vb xs ys _ _ ha hb rfl rfl (by omega) (fun h => by cases h) (by omega) hla
end Go.Proofs.YtikajmmeglookaaGreatDoor
/- Sums of products, carried. -/
namespace Go.Proofs.YtikajmmeglookaaGreatDoor
open Go.RowKit
set_option linter.unusedVariables false
set_option maxHeartbeats 400000

theorem val_cut (xs : List Nat) (k : Nat) (h : k ≤ xs.length) : val xs = val (xs.take k) + LB ^ k * val (xs.drop k) := by
  conv => lhs; rw [← List.take_append_drop k xs]
  rw [val_append, List.length_take, Nat.min_eq_left h]; rfl
theorem lval_append (xs ys : List Nat) : val (xs ++ ys) = val xs + LB ^ xs.length * val ys := val_append xs ys
theorem val_splice (o xs : List Nat) (off : Nat) (h : off + xs.length ≤ o.length) (hz : ∀ j, off ≤ j → j < off + xs.length → lb o j = 0) : val (splice o off xs) = val o + LB ^ off * val xs := by
  have e1 := val_cut o off (by omega)
  have e2 := val_cut (o.drop off) xs.length (by rw [List.length_drop]; omega)
  have e3 : val ((o.drop off).take xs.length) = 0 := by
    have : (o.drop off).take xs.length = List.replicate xs.length 0 := by
      refine ext_lb (by simp; omega) fun j hj => ?_
      have hj' : j < xs.length := by simp at hj; omega
      rw [lb_take hj', lb_drop, lb_zeros, hz _ (by omega) (by omega)]
    rw [this, val_replicate_zero]
  rw [e3, Nat.zero_add, List.drop_drop] at e2
  unfold splice
  rw [lval_append, lval_append, List.length_take, Nat.min_eq_left (by omega), e1, e2, Nat.mul_add]
  omega
theorem splice_lenL (o xs : List Nat) (off : Nat) (h : off + xs.length ≤ o.length) : (splice o off xs).length = o.length := length_splice o off xs h
theorem splice_ltL (o xs : List Nat) (off : Nat) (ho : ∀ x ∈ o, x < 4294967296) (hx : ∀ x ∈ xs, x < 4294967296) : ∀ x ∈ splice o off xs, x < 4294967296 := by
  intro x h
  unfold splice at h
  rcases List.mem_append.1 h with h | h
  · exact ho x (List.mem_of_mem_take h)
  · rcases List.mem_append.1 h with h | h
    · exact hx x h
    · exact ho x (List.mem_of_mem_drop h)
theorem L32_splice (o xs : List Nat) (off : Nat) (t : List Value) (h : off + xs.length ≤ o.length) : splice (L32 o ++ t) off (L32 xs) = L32 (splice o off xs) ++ t := by
  unfold splice
  rw [L32_length, List.take_append_of_le_length (by rw [L32_length]; omega), List.drop_append_of_le_length (by rw [L32_length]; omega)]
  simp [L32, List.map_take, List.map_drop]

theorem wpList_copyL {w : World} {ops : Array Oper} {rest : List Oper} {o : Oper} {a : Act} {Q : Exit → Act → World → Prop} (hgd : o.guard = none) (d s : Operand)
    (ho : o.op = .call { callee := .builtin .copy, args := #[d, s], argTypes := #[22, 22] }) (g off dLen dCap : Nat) (sp : Option Addr) (sLen sCap : Nat)
    (hd : a.eval d = .slice (some ⟨g, off, none⟩) dLen dCap) (hs : a.eval s = .slice sp sLen sCap) (base n c : Nat) (os : List Nat) (hown : Own w base (.slice (some ⟨g, 0, none⟩) n c) os)
    (xs : List Nat) (hx : U w (.slice sp sLen sCap) xs) (hle : sLen ≤ dLen) (hfit : off + dLen ≤ n)
    (h : ∀ w', Own w' base (.slice (some ⟨g, 0, none⟩) n c) (splice os off xs) → But g w w' → wpList Tryz.prog ops Q rest (a.put o.dst (goInt xs.length)) w') : wpList Tryz.prog ops Q (o :: rest) a w := by
  obtain ⟨A, c', hv, hcc, hlim, hr⟩ := hx
  injection hv with q1 q2 q3
  have hi : (Tryz.prog.info? 23).map (·.size) = some 1 := by kernel_rfl
  have hlen : (L32 xs).length = xs.length := L32_length xs
  have hcaps := hown.caps
  rcases Nat.eq_zero_or_pos xs.length with h0 | h0
  · obtain rfl := List.eq_nil_of_length_eq_zero h0
    have q2' : sLen = 0 := q2
    rw [q2'] at hs
    refine wpList_copy_nothing hgd d s 22 22 ho 23 Tryz.underlying22 hi _ _ dLen dCap 0 sCap hd hs (Nat.zero_min _) ?_
    refine h w ?_ (But.refl g w)
    have e : splice os off ([] : List Nat) = os := by simp [splice]
    rw [e]; exact hown
  · obtain ⟨ad, hA, hb, hcell⟩ := hr h0
    have hh0 : w.ownsRow base 23 1 (.slice (some ⟨g, 0, none⟩) n c) os.length (L32 os) := hown
    rcases hh0.2 with ⟨h1, _⟩ | ⟨g', cap, cur, h1, hg, hh, h2, h3, h4, h5⟩
    · cases h1
    · injection h1 with e1 e2 e3
      injection e1 with e1
      injection e1 with e1
      subst e1
      have hcur : cur.toList = L32 os ++ cur.toList.drop os.length := by
        conv => lhs; rw [← List.take_append_drop os.length cur.toList]
        rw [← h5, Nat.mul_one]
      have hsz : os.length ≤ cur.size := by omega
      refine wpList_copy_own hgd d s 22 22 ho 23 Tryz.underlying22 hi g off dLen dCap ad sLen sCap hd (by rw [hs, q1, hA]) cur 23 hh (L32 xs) (by rw [hlen, ← q2]; exact (Nat.min_eq_left hle).symm) ?_ (by rw [hlen]; omega) (by intro u hu; obtain ⟨z, _, rfl⟩ := List.mem_map.1 hu; rfl) ?_
      · intro j u hj
        have hjl : j < xs.length := by
          rcases Nat.lt_or_ge j xs.length with h | h
          · exact h
          · rw [List.getElem?_eq_none (by rw [L32_length]; exact h)] at hj; cases hj
        rw [hcell j hjl, ← L32_get xs hjl, hj]
      · rw [hlen]
        have e : cur.toList.take off ++ (L32 xs ++ cur.toList.drop (off + xs.length)) = L32 (splice os off xs) ++ cur.toList.drop os.length := by
          rw [← L32_splice os xs off _ (by omega), ← hcur]
          unfold splice
          rw [hlen]
        have hsl := splice_lenL os xs off (by omega)
        refine h _ ?_ ⟨rfl, rfl, rfl, by simp [World.setRow], fun k hk hne => setRow_other w g k _ (fun e => hne (by rw [e]))⟩
        refine ⟨by rw [L32_length, Nat.mul_one], .inr ⟨g, cap, _, by rw [e2, e3, hsl], hg, setRow_heap w g _ _ _ _ hh, by rw [hsl]; exact h2, h3, ?_, ?_⟩⟩
        · rw [e, List.size_toArray, List.length_append, L32_length, hsl, List.length_drop, Array.length_toList (xs := cur)]
          omega
        · rw [e, Nat.mul_one, List.take_append_of_le_length (by rw [L32_length]; exact Nat.le_refl _), ← L32_length (splice os off xs), List.take_length]


/-- The number that sums of products are, the lowest first. -/
def cval : List Nat → Nat
  | [] => 0
  | x :: xs => x + LB * cval xs
theorem cval_append (xs ys : List Nat) : cval (xs ++ ys) = cval xs + LB ^ xs.length * cval ys := by
  induction xs with
  | nil => simp [cval]
  | cons x xs ih =>
    simp only [List.cons_append, cval, ih, List.length_cons, Nat.pow_succ]
    rw [Nat.mul_add, Nat.add_assoc]
    congr 2
    rw [← Nat.mul_assoc, Nat.mul_comm LB]
theorem cval_take_succ (xs : List Nat) (k : Nat) (h : k < xs.length) : cval (xs.take (k + 1)) = cval (xs.take k) + LB ^ k * lb xs k := by
  have e : xs.take (k + 1) = xs.take k ++ [lb xs k] := by
    rw [List.take_add_one, List.getElem?_eq_getElem h]
    unfold lb
    rw [List.getElem?_eq_getElem h]; rfl
  rw [e, cval_append, List.length_take, Nat.min_eq_left (by omega)]
  simp [cval]
structure CaI (cs : List Nat) (n k : Nat) (o : List Nat) (T : Nat) : Prop where
  len : o.length = n
  lt : ∀ x ∈ o, x < 4294967296
  val : val o + LB ^ k * T = cval (cs.take k)
  out : ∀ m, k ≤ m → lb o m = 0
  tb : T < 36893488147419103232
theorem CaI.step {cs : List Nat} {n k : Nat} {o : List Nat} {T : Nat} (h : CaI cs n k o T) (hk : k < n) (hkc : k < cs.length) (S : Nat) (hS : lb cs k = S) (hSb : S < 79228162514264337593543950336) (z T' : Nat) (hz : (T + S) % 4294967296 = z) (hT : (T + S) / 4294967296 = T') :
    CaI cs n (k + 1) (o.set k z) T' := by
  have hb := h.tb
  refine ⟨by simp [h.len], set_lt h.lt (by omega), ?_, fun m hm => by rw [lb_set_other _ (by omega)]; exact h.out m (by omega), by omega⟩
  have hset := lval_set o k z (by rw [h.len]; exact hk)
  rw [h.out k (Nat.le_refl _), Nat.mul_zero, Nat.add_zero] at hset
  rw [cval_take_succ _ _ hkc, hS, hset, ← h.val, Nat.pow_succ, Nat.mul_assoc, Nat.add_assoc, ← Nat.mul_add, Nat.add_assoc, ← Nat.mul_add]
  congr 2
  unfold LB
  omega
theorem carry_math (T S low high mlo c2 s up h : Nat) (hT : T < 36893488147419103232) (hS : S < 79228162514264337593543950336) (h1 : T % 18446744073709551616 = low) (h2 : T / 18446744073709551616 = high) (h3 : S % 18446744073709551616 = mlo) (h4 : S / 18446744073709551616 = c2)
    (h5 : (low + mlo) % 18446744073709551616 = s) (h6 : (low + mlo) / 18446744073709551616 = up) (h7 : high + (c2 + up) = h) :
    s % 4294967296 = (T + S) % 4294967296 ∧ s / 4294967296 + 4294967296 * (h % 4294967296) = (T + S) / 4294967296 % 18446744073709551616 ∧ h / 4294967296 = (T + S) / 4294967296 / 18446744073709551616 ∧ h < 8589934592 ∧ c2 < 4294967296 ∧ up ≤ 1 ∧ high ≤ 1 := by
  have e1 : T = 18446744073709551616 * high + low := by omega
  have e2 : S = 18446744073709551616 * c2 + mlo := by omega
  have e3 : low + mlo = 18446744073709551616 * up + s := by omega
  have b1 : low < 18446744073709551616 := by omega
  have b2 : mlo < 18446744073709551616 := by omega
  have b3 : s < 18446744073709551616 := by omega
  clear h1 h2 h3 h4 h5 h6
  have e4 : T + S = 18446744073709551616 * h + s := by omega
  have b4 : c2 < 4294967296 := by omega
  have b5 : up ≤ 1 := by omega
  have b6 : high ≤ 1 := by omega
  have b7 : h < 8589934592 := by omega
  rw [e4]
  clear e1 e2 e3 e4 hT hS h7
  refine ⟨by omega, by omega, by omega, b7, b4, b5, b6⟩
theorem limbs3' (S : Nat) (hS : S < 79228162514264337593543950336) (s0 s1 s2 : Nat) (h0 : S % 4294967296 = s0) (h1 : S / 4294967296 % 4294967296 = s1) (h2 : S / 18446744073709551616 % 4294967296 = s2) : S % 18446744073709551616 = s1 * 4294967296 + s0 ∧ S / 18446744073709551616 = s2 := ⟨by omega, by omega⟩
theorem U3.cells3 {w : World} {A : Option Addr} {n c : Nat} {cs : List Nat} (h : U3 w (.slice A n c) cs) (h0 : 0 < n) : ∃ ad, A = some ad ∧ ad.block < w.heap.size ∧ ∀ k, k < n → w.cell? (ad.add (k * 3)) = some (.int .u32 (lb cs k % 4294967296 : Nat)) ∧ w.cell? ⟨(ad.add (k * 3)).block, (ad.add (k * 3)).off + 1, none⟩ = some (.int .u32 (lb cs k / 4294967296 % 4294967296 : Nat)) ∧ w.cell? ⟨(ad.add (k * 3)).block, (ad.add (k * 3)).off + 2, none⟩ = some (.int .u32 (lb cs k / 18446744073709551616 % 4294967296 : Nat)) := by
  obtain ⟨A', c', e, _, hr⟩ := h
  injection e with e1 e2 e3
  subst e1 e2 e3
  obtain ⟨ad, rfl, hb, hcell⟩ := hr h0
  refine ⟨ad, rfl, hb, fun k hk => ?_⟩
  have hl := lb_fl cs k hk
  have k0 := hcell (k * 3) (by omega)
  have k1 := hcell (k * 3 + 1) (by omega)
  have k2 := hcell (k * 3 + 2) (by omega)
  rw [hl.1] at k0
  rw [hl.2.1, ← addr_add_add, addr_at _ 1 (by decide)] at k1
  rw [hl.2.2, ← addr_add_add, addr_at _ 2 (by decide)] at k2
  exact ⟨k0, k1, k2⟩

set_option maxRecDepth 100000 in
set_option maxHeartbeats 8000000 in
theorem carry_calls (w : World) (v : Value) (cs : List Nat) (hu : U3 w v cs) (hcs : ∀ x ∈ cs, x < 79228162514264337593543950336) (hl : cs.length ≤ 100000) :
    Calls Tryz.prog 81 #[v] w fun e w' => (∃ u, e = .returned u ∧ Un w' u (cval cs)) ∧ Ext w w' := by
  obtain ⟨A, c, hv, hc, hr⟩ := id hu
  subst hv
  obtain ⟨n, hn⟩ : ∃ n, cs.length = n := ⟨_, rfl⟩
  have HN := Lib.hid hn
  have HTK := Lib.hid (fun k => cval_take_succ cs k)
  have HT2 : Hid (cs.take n = cs) := by rw [Hid, ← hn]; exact List.take_length
  have HCS := Lib.hid (lb_lt_of (xs := cs) (by decide) hcs)
  rw [hn] at hu hc hl ⊢
  clear hr hn
  obtain ⟨m, hm⟩ : ∃ m, n + 3 = m := ⟨_, rfl⟩
  have hmi : (n : Int) + 3 = (m : Int) := by omega
  obtain ⟨i0, hi, hz0, hz1, hz2⟩ := info_parts info32
  obtain ⟨B, hB⟩ : ∃ B, w.heap.size = B := ⟨_, rfl⟩
  have HBS := Lib.hid hB
  go_enter Tryz.func81, Tryz.ntmps81
  go_wp2_with (at_make; refine wpList_make_full _ rfl _ _ 22 rfl w.heap.size 23 i0 (.int .u32 0) 1 Tryz.underlying22 hi hz0 hz1 _ _ _ _ m rfl rfl (by omega) (by omega) (by rw [hz2]; omega) (by unfold maxLen; omega) (Nat.le_refl _) ?_; intro w1 hown hgrow)
  have ho0 : Own w1 w.heap.size (.slice (some ⟨w.heap.size, 0, none⟩) m m) (List.replicate m 0) := by
    have := Own.zeros hown
    rwa [List.length_replicate] at this
  have hE0 : Ext w w1 := (Ext.refl w).grown hgrow (Nat.le_refl _) (fun _ h => by cases h)
  rw [hB] at ho0
  clear hown hgrow hi hz0 hz1 hz2 i0
  have hS0 : Hid (CaI cs m 0 (List.replicate m 0) 0) := ⟨by simp, fun x hx => by simp at hx; omega, by simp [val_replicate_zero, cval], fun m _ => lb_zeros _ _, by decide⟩
  go_wp2
  go_loopw [15, 4, 5] (fun t l h wr => ∃ (k : Nat) (o : List Nat) (T low high : Nat), k ≤ n ∧ t = .int .i64 (k : Nat) ∧ l = .int .u64 (low : Nat) ∧ h = .int .u64 (high : Nat) ∧ Hid (T % 18446744073709551616 = low ∧ T / 18446744073709551616 = high) ∧ Hid (CaI cs m k o T) ∧ Own wr B (.slice (some ⟨B, 0, none⟩) m m) o ∧ Ext w wr) (fun t _ _ _ => n - (intOf t).toNat)
  case atStart => exact ⟨0, _, 0, 0, 0, Nat.zero_le _, rfl, rfl, rfl, ⟨rfl, rfl⟩, hS0, ho0, hE0⟩
  case round =>
    clear hS0 ho0 hE0
    obtain ⟨k, o, T, low, high, hkn, rfl, rfl, rfl, HT, HO, hown, hE⟩ := hrel
    by_cases hlt : k < n
    · obtain ⟨ad, rfl, hb, hcell⟩ := hu.cells3 (by omega)
      obtain ⟨k0, k1, k2⟩ := hcell k hlt
      have hSb := HCS.out k
      obtain ⟨S, hS⟩ : ∃ S, lb cs k = S := ⟨_, rfl⟩
      rw [hS] at k0 k1 k2 hSb
      obtain ⟨s0, hs0⟩ : ∃ s0, S % 4294967296 = s0 := ⟨_, rfl⟩
      obtain ⟨s1, hs1⟩ : ∃ s1, S / 4294967296 % 4294967296 = s1 := ⟨_, rfl⟩
      obtain ⟨c2, hs2⟩ : ∃ c2, S / 18446744073709551616 % 4294967296 = c2 := ⟨_, rfl⟩
      obtain ⟨hlo3, hhi3⟩ := limbs3' S hSb s0 s1 c2 hs0 hs1 hs2
      rw [hs0] at k0
      rw [hs1] at k1
      rw [hs2] at k2
      have b0 : s0 < 4294967296 := by rw [← hs0]; exact Nat.mod_lt _ (by decide)
      have b1 : s1 < 4294967296 := by rw [← hs1]; exact Nat.mod_lt _ (by decide)
      obtain ⟨m1, hm1⟩ : ∃ m1, s1 * 4294967296 = m1 := ⟨_, rfl⟩
      obtain ⟨mlo, hmlo⟩ : ∃ mlo, m1 + s0 = mlo := ⟨_, rfl⟩
      rw [hm1, hmlo] at hlo3
      have hor : bits .or .u64 (m1 : Int) (s0 : Int) = (mlo : Int) := by
        rw [u64_or_nat _ _ (by omega) (by omega), nat_join 32 m1 s0 (by rw [← hm1]; exact Nat.mul_mod_left _ _) b0, hmlo]
      obtain ⟨s, hss⟩ : ∃ s, (low + mlo) % 18446744073709551616 = s := ⟨_, rfl⟩
      obtain ⟨up, hup⟩ : ∃ up, (low + mlo) / 18446744073709551616 = up := ⟨_, rfl⟩
      obtain ⟨h, hh⟩ : ∃ h, high + (c2 + up) = h := ⟨_, rfl⟩
      obtain ⟨r1, r2, r3, r4, r5, r6, r7⟩ := carry_math T S low high mlo c2 s up h HO.out.tb hSb HT.out.1 HT.out.2 hlo3 hhi3 hss hup hh
      obtain ⟨z, hz⟩ : ∃ z, (T + S) % 4294967296 = z := ⟨_, rfl⟩
      obtain ⟨T', hT'⟩ : ∃ T', (T + S) / 4294967296 = T' := ⟨_, rfl⟩
      have hst := Lib.hid (HO.out.step (by omega) (by rw [HN.out]; exact hlt) S hS hSb z T' hz hT')
      rw [hz] at r1
      rw [hT'] at r2 r3
      obtain ⟨low', hlow'⟩ : ∃ low', T' % 18446744073709551616 = low' := ⟨_, rfl⟩
      obtain ⟨high', hhigh'⟩ : ∃ high', T' / 18446744073709551616 = high' := ⟨_, rfl⟩
      rw [hlow'] at r2
      rw [hhigh'] at r3
      have HT2 : Hid (T' % 18446744073709551616 = low' ∧ T' / 18446744073709551616 = high') := ⟨hlow', hhigh'⟩
      obtain ⟨sq, hsq⟩ : ∃ sq, s / 4294967296 = sq := ⟨_, rfl⟩
      obtain ⟨hh2, hhh⟩ : ∃ hh2, 4294967296 * (h % 4294967296) = hh2 := ⟨_, rfl⟩
      rw [hsq, hhh] at r2
      have hsb : s < 18446744073709551616 := by rw [← hss]; exact Nat.mod_lt _ (by decide)
      have hsqb : sq < 4294967296 := by omega
      have hhb : hh2 < 18446744073709551616 := by omega
      have hor2 : bits .or .u64 (sq : Int) (hh2 : Int) = (low' : Int) := by
        rw [u64_or_nat _ _ (by omega) hhb, Nat.or_comm, nat_join 32 hh2 sq (by rw [← hhh]; exact Nat.mul_mod_right _ _) hsqb, ← r2]
        congr 1; omega
      have hadd : ∀ w, (callFunc 89 #[.int .u64 (low : Nat), .int .u64 (mlo : Nat), .int .u64 0]).run Tryz.prog w = .ok (.value (.tuple #[.int .u64 (s : Nat), .int .u64 (up : Nat)])) w := run_addc low mlo 0 s up (Nat.zero_le _) hss hup
      have f1 : (s1 : Int) * 4294967296 = (m1 : Int) := by omega
      have f2 : IntKind.u64.wrap (m1 : Int) = (m1 : Int) := by rw [IntKind.wrap_u64]; omega
      have f2' : (m1 : Int) % 18446744073709551616 = (m1 : Int) := by omega
      have f3 : IntKind.u64.wrap (s0 : Int) = (s0 : Int) := by rw [IntKind.wrap_u64]; omega
      have f4 : IntKind.u64.wrap (s1 : Int) = (s1 : Int) := by rw [IntKind.wrap_u64]; omega
      have f5 : IntKind.u64.wrap (c2 : Int) = (c2 : Int) := by rw [IntKind.wrap_u64]; omega
      have f6 : IntKind.u64.wrap ((c2 : Int) + (up : Int)) = (c2 : Int) + (up : Int) := by rw [IntKind.wrap_u64]; omega
      have f7 : (high : Int) + ((c2 : Int) + (up : Int)) = (h : Int) := by omega
      have f8 : IntKind.u64.wrap (h : Int) = (h : Int) := by rw [IntKind.wrap_u64]; omega
      have f9 : IntKind.u32.wrap (s : Int) = (z : Int) := by rw [IntKind.wrap_u32]; omega
      have f9' : (s : Int) % 4294967296 = (z : Int) := by omega
      have f10 : (s : Int) / 4294967296 = (sq : Int) := by omega
      have f11 : IntKind.u64.wrap ((h : Int) * 4294967296) = (hh2 : Int) := by rw [IntKind.wrap_u64]; omega
      have f11' : ((h : Int) * 4294967296) % 18446744073709551616 = (hh2 : Int) := by omega
      have f12 : (h : Int) / 4294967296 = (high' : Int) := by omega
      have hlow1 : low < 18446744073709551616 := by have := HT.out.1; omega
      have hf := hown.frozen' k
      have hcz := hown.rd.2 k (by rw [HO.out.len]; omega)
      have hcz0 : lb o k = 0 := HO.out.out k (Nat.le_refl _)
      have hown2 := hown.set' k z
      have hE2 := hE.setCell (p := ⟨B, k, none⟩) (by rw [hB]; exact Nat.le_refl _) (.int .u32 (z : Nat))
      replace k0 := (hE.cell (p := ad.add (k * 3)) (by rw [addr_add_block]; exact hb)).trans k0
      replace k1 := (hE.cell (p := ⟨(ad.add (k * 3)).block, (ad.add (k * 3)).off + 1, none⟩) (by rw [addr_add_block]; exact hb)).trans k1
      replace k2 := (hE.cell (p := ⟨(ad.add (k * 3)).block, (ad.add (k * 3)).off + 2, none⟩) (by rw [addr_add_block]; exact hb)).trans k2
      have hkb : (k : Int) < (n : Int) := by omega
      have hk0 : (0 : Int) ≤ (k : Int) := by omega
      have hkm : (k : Int) < (m : Int) := by omega
      clear hcell hS hs0 hs1 hs2 hlo3 hhi3 hm1 hmlo hss hup hh r1 r2 r3 hz hT' hlow' hhigh' hsq hhh hown hE HO HT hcz0
      go_wp2
      go_region
      go_wp2
      go_roundw
      case rel => exact ⟨k + 1, _, T', low', high', by omega, by go_num, rfl, rfl, HT2, hst, hown2.drew, hE2.drew⟩
      case measure => simp [intOf]; omega
    · obtain rfl : k = n := by omega
      have hTb := HO.out.tb
      have hlow := HT.out.1
      have hhigh := HT.out.2
      obtain ⟨t0, ht0⟩ : ∃ t0, low % 4294967296 = t0 := ⟨_, rfl⟩
      obtain ⟨t1, ht1⟩ : ∃ t1, low / 4294967296 = t1 := ⟨_, rfl⟩
      have hl64 : low < 18446744073709551616 := by omega
      have hh2 : high < 4294967296 := by omega
      have p1 : IntKind.u32.wrap (low : Int) = (t0 : Int) := by rw [IntKind.wrap_u32]; omega
      have p1' : (low : Int) % 4294967296 = (t0 : Int) := by omega
      have p2 : (low : Int) / 4294967296 = (t1 : Int) := by omega
      have ht1b : t1 < 4294967296 := by omega
      have ht0b : t0 < 4294967296 := by omega
      have p3 : IntKind.u32.wrap (t1 : Int) = (t1 : Int) := by rw [IntKind.wrap_u32]; omega
      have p4 : IntKind.u32.wrap (high : Int) = (high : Int) := by rw [IntKind.wrap_u32]; omega
      have p3' : (t1 : Int) % 4294967296 = (t1 : Int) := by omega
      have p4' : (high : Int) % 4294967296 = (high : Int) := by omega
      have hTv : Hid (T = t0 + LB * (t1 + LB * high)) := by unfold LB; rw [Hid]; omega
      have q1 : k < m := by omega
      have q2 : (k : Int) < (m : Int) := by omega
      have q3 : m - k = 3 := by omega
      have q4 : ¬ (m = k) := by omega
      have hcv := HO.out.val
      rw [HT2.out] at hcv
      have hu3 : U (wr.alloc (.cells #[.int .u32 (t0 : Nat), .int .u32 (t1 : Nat), .int .u32 (high : Nat)] 23)) (.slice (some ⟨wr.heap.size, 0, none⟩) 3 3) [t0, t1, high] := U_lit wr [t0, t1, high] (by simp; exact ⟨ht0b, ht1b, hh2⟩) (by simp)
      have hownA := hown.alloc (.cells #[.int .u32 (t0 : Nat), .int .u32 (t1 : Nat), .int .u32 (high : Nat)] 23)
      have hEA := hE.alloc (.cells #[.int .u32 (t0 : Nat), .int .u32 (t1 : Nat), .int .u32 (high : Nat)] 23)
      have hsp := val_splice o [t0, t1, high] k (by rw [HO.out.len]; simp; omega) (fun j hj _ => HO.out.out j hj)
      have hsl := splice_lenL o [t0, t1, high] k (by rw [HO.out.len]; simp; omega)
      have hslt := splice_ltL o [t0, t1, high] k HO.out.lt hu3.lim
      have HV : Hid (val (splice o k [t0, t1, high]) = cval cs) := by
        rw [Hid, hsp, ← hcv, hTv.out]
        simp [val, LB]
      have HSL : Hid ((splice o k [t0, t1, high]).length = m) := by rw [Hid, hsl]; exact HO.out.len
      clear hsp hsl hcv hlow hhigh HT HO hTb hown hE ht0 ht1
      go_wp2_with (first
        | (with_reducible show wpList _ _ _ (⟨some 72, _, _, _, _, _⟩ :: _) _ _; refine Classical.byContradiction fun hcontra => ?_)
        | fail)
      refine hcontra ?_
      refine wpList_copyL (o := ⟨some 72, _, _, _, _, _⟩) rfl (.tmp 63) (.tmp 71) rfl B k 3 3 (some ⟨wr.heap.size, 0, none⟩) 3 3 rfl rfl B m m o hownA [t0, t1, high] hu3 (by omega) (by omega) ?_
      intro w2 hown2 hb2
      clear hcontra
      have hE2 := Ext.but hEA hb2 (by rw [HBS.out]; exact Nat.le_refl _)
      have hu := hown2.toU hslt (by rw [HSL.out]; omega)
      clear hown2 hownA hu3 hb2 hEA hslt
      go_wp2_with (fail)
      refine (trim32_calls _ _ _ hu).mono ?_
      rintro e w3 ⟨⟨u, rfl, hu2⟩, rfl⟩
      rw [HV.out] at hu2
      have HF : Hid (∃ u', Ending.returned u = .returned u' ∧ Un w2 u' (cval cs)) := ⟨_, rfl, hu2⟩
      clear hu2 hu
      go_wp2
      go_ret
      exact ⟨HF.out, hE2⟩
end Go.Proofs.YtikajmmeglookaaGreatDoor
/- Sums of products, carried, are the product; the last bit taken away. -/
namespace Go.Proofs.YtikajmmeglookaaGreatDoor
open Go.RowKit
set_option linter.unusedVariables false
set_option maxHeartbeats 400000

theorem cval_nsum (cs : List Nat) : cval cs = nsum cs.length (fun k => LB ^ k * lb cs k) := by
  have h : ∀ n, n ≤ cs.length → cval (cs.take n) = nsum n (fun k => LB ^ k * lb cs k) := by
    intro n
    induction n with
    | zero => intro _; simp [cval, nsum]
    | succ n ih => intro hn; rw [cval_take_succ _ _ (by omega), ih (by omega), nsum]
  have := h cs.length (Nat.le_refl _)
  rwa [List.take_length] at this
theorem val_nsum (b : List Nat) (n : Nat) (hn : b.length ≤ n) : nsum n (fun j => LB ^ j * lb b j) = val b := by
  have h : ∀ n, n ≤ b.length → val (b.take n) = nsum n (fun k => LB ^ k * lb b k) := by
    intro n
    induction n with
    | zero => intro _; simp [val, nsum]
    | succ n ih => intro hn; rw [lval_take_succ _ _ (by omega), ih (by omega), nsum]
  induction n with
  | zero =>
    have := h 0 (Nat.zero_le _)
    rw [List.length_eq_zero_iff.1 (by omega : b.length = 0)]; rfl
  | succ n ih =>
    rcases Nat.lt_or_ge n b.length with hlt | hge
    · have e : b.length = n + 1 := by omega
      rw [← h (n + 1) (by omega), ← e, List.take_length]
    · rw [nsum, ih hge, lb_out hge, Nat.mul_zero, Nat.add_zero]
theorem nsum_shift (b : List Nat) (x i n : Nat) : nsum n (fun k => LB ^ k * (if i ≤ k then x * lb b (k - i) else 0)) = x * (LB ^ i * nsum (n - i) (fun j => LB ^ j * lb b j)) := by
  induction n with
  | zero => simp [nsum]
  | succ n ih =>
    rw [nsum, ih]
    by_cases h : i ≤ n
    · rw [if_pos h, show n + 1 - i = (n - i) + 1 by omega, nsum, Nat.mul_add, Nat.mul_add]
      congr 1
      have : LB ^ n = LB ^ i * LB ^ (n - i) := by rw [← Nat.pow_add]; congr 1; omega
      rw [this]
      grind
    · rw [if_neg h, show n + 1 - i = 0 by omega, show n - i = 0 by omega, Nat.mul_zero, Nat.add_zero]
theorem nsum_add (n : Nat) (f g : Nat → Nat) : nsum n (fun k => f k + g k) = nsum n f + nsum n g := by
  induction n with
  | zero => rfl
  | succ n ih => rw [nsum, nsum, nsum, ih]; omega
theorem nsum_cv (a b : List Nat) (n i : Nat) (hi : i ≤ a.length) (hn : a.length + b.length ≤ n + 1) : nsum n (fun k => LB ^ k * cv a b i k) = val (a.take i) * val b := by
  induction i with
  | zero =>
    have : ∀ m, nsum m (fun k => LB ^ k * cv a b 0 k) = 0 := fun m => by
      induction m with
      | zero => rfl
      | succ m ih => rw [nsum, ih]; simp [cv]
    rw [this]; simp [val]
  | succ i ih =>
    have e : (fun k => LB ^ k * cv a b (i + 1) k) = fun k => LB ^ k * cv a b i k + LB ^ k * (if i ≤ k then lb a i * lb b (k - i) else 0) := by
      funext k; rw [cv, Nat.mul_add]
    rw [e, nsum_add, ih (by omega), nsum_shift, val_nsum b _ (by omega), lval_take_succ _ _ (by omega), Nat.add_mul]
    congr 1
    rw [← Nat.mul_assoc, Nat.mul_comm (lb a i)]
theorem cval_cvs (a b : List Nat) : cval (cvs a b) = val a * val b := by
  by_cases h : a.length = 0 ∨ b.length = 0
  · rw [cvs_nil a b h]
    rcases h with h | h
    · rw [List.length_eq_zero_iff.1 h]; simp [val, cval]
    · rw [List.length_eq_zero_iff.1 h]; simp [val, cval]
  · rw [cvs_pos a b (by omega) (by omega), cval_nsum, conv_len]
    have e := nsum_cv a b (a.length + b.length - 1) a.length (Nat.le_refl _) (by omega)
    rw [List.take_length] at e
    rw [← e]
    exact nsum_congr fun k hk => by rw [lb_conv _ _ _ hk]

theorem i64_andNot1 (v : Nat) (h : v < 9223372036854775808) : bits .andNot .i64 (v : Int) 1 = ((v - v % 2 : Nat) : Int) := by
  have hv : (BitVec.ofInt 64 (v : Int)).toNat = v := by rw [BitVec.toNat_ofInt]; omega
  have h1 : (BitVec.ofInt 64 (v : Int) &&& BitVec.ofInt 64 1) ||| (BitVec.ofInt 64 (v : Int) &&& ~~~ BitVec.ofInt 64 1) = BitVec.ofInt 64 (v : Int) := by
    ext i hi
    simp only [BitVec.getElem_or, BitVec.getElem_and, BitVec.getElem_not]
    cases (BitVec.ofInt 64 (v : Int))[i] <;> cases (BitVec.ofInt 64 1)[i] <;> rfl
  have h2 : (BitVec.ofInt 64 (v : Int) &&& BitVec.ofInt 64 1) &&& (BitVec.ofInt 64 (v : Int) &&& ~~~ BitVec.ofInt 64 1) = 0 := by
    ext i hi
    simp only [BitVec.getElem_and, BitVec.getElem_not, BitVec.ofNat_eq_ofNat, BitVec.getElem_zero]
    cases (BitVec.ofInt 64 (v : Int))[i] <;> cases (BitVec.ofInt 64 1)[i] <;> rfl
  have h3 := BitVec.add_eq_or_of_and_eq_zero _ _ h2
  rw [h1] at h3
  have h4 := congrArg BitVec.toNat h3
  rw [BitVec.toNat_add, hv] at h4
  have h5 : (BitVec.ofInt 64 (v : Int) &&& BitVec.ofInt 64 1).toNat = v % 2 := by
    have e1 : (BitVec.ofInt 64 1).toNat = 2 ^ 1 - 1 := by decide
    rw [BitVec.toNat_and, e1, Nat.and_two_pow_sub_one_eq_mod, hv]
  have h6 : (BitVec.ofInt 64 (v : Int) &&& ~~~ BitVec.ofInt 64 1).toNat ≤ v := by
    rw [BitVec.toNat_and, hv]; exact Nat.and_le_left
  rw [h5] at h4
  show IntKind.i64.wrap ((BitVec.ofInt 64 (v : Int) &&& ~~~ BitVec.ofInt 64 1).toNat : Nat) = _
  generalize (BitVec.ofInt 64 (v : Int) &&& ~~~ BitVec.ofInt 64 1).toNat = r at *
  rw [IntKind.wrap_i64]
  omega
end Go.Proofs.YtikajmmeglookaaGreatDoor
/- Products by transforms. -/
namespace Go.Proofs.YtikajmmeglookaaGreatDoor
open Go.RowKit
set_option linter.unusedVariables false
set_option maxHeartbeats 400000

theorem bb_pow (k : Nat) : BB ^ k = LB ^ (2 * k) := by rw [Nat.pow_mul]; rfl
theorem cvs_ltM (a b : List Nat) (ha : ∀ x ∈ a, x < 4294967296) (hb : ∀ x ∈ b, x < 4294967296) (hl : a.length ≤ 100000) : ∀ x ∈ cvs a b, x < 79228162514264337593543950336 := by
  intro x hx
  unfold cvs at hx
  split at hx
  · cases hx
  · obtain ⟨m, _, rfl⟩ := List.mem_map.1 hx
    have h1 := cv_le a b ha hb a.length m
    have h2 := Nat.mul_le_mul_right 18446744065119617025 hl
    omega
theorem cvs_len_le (a b : List Nat) : (cvs a b).length ≤ a.length + b.length := by
  unfold cvs
  split
  · simp
  · rw [conv_len]; omega
/-- The product of the first a limbs is there, in words. -/
structure FaI (xs ys : List Nat) (m a : Nat) (o : List Nat) : Prop where
  len : o.length = m
  lt : ∀ x ∈ o, x < 18446744073709551616
  val : wal o = val (xs.take a) * val ys
theorem lprod_lt {as_ bs : List Nat} (ha : ∀ x ∈ as_, x < 4294967296) (hb : ∀ x ∈ bs, x < 4294967296) : val as_ * val bs < LB ^ (as_.length + bs.length) := by
  rw [Nat.pow_add]
  exact Nat.mul_lt_mul'' (val_lt as_ ha) (val_lt bs hb)
theorem U.drop_ {w : World} {ad : Addr} {n c : Nat} {xs : List Nat} (h : U w (.slice (some ad) n c) xs) {k m c' : Nat} (hk : k ≤ n) (hm : n - k = m) (hc' : m ≤ c') : U w (.slice (some (ad.add k)) m c') (xs.drop k) := by
  obtain ⟨A, c, hv, hc, hx, hr⟩ := h
  injection hv with h1 h2 h3
  subst h1 h2 h3
  have hlen : (xs.drop k).length = m := by simp; omega
  refine ⟨_, c', by rw [hlen], by omega, fun x hx' => hx x (List.mem_of_mem_drop hx'), fun h0 => ?_⟩
  obtain ⟨ad', hA, hb, hcell⟩ := hr (by omega)
  injection hA with hA
  subst hA
  refine ⟨_, rfl, by rw [addr_add_block]; exact hb, fun j hj => ?_⟩
  rw [addr_add_add, hcell (k + j) (by omega), lb_drop]
theorem conv_M (W : World) (hg : Gl W) (A A2 : Option Addr) (na nb ca cb : Nat) (a b : List Nat) (n : Nat) (h1 : U W (.slice A na ca) a) (h2 : U W (.slice A2 nb cb) b) (hna : na ≤ 30000) (hnb : nb ≤ 30000) (hn : (cvs a b).length = n) :
    Calls Tryz.prog 82 #[.slice A na ca, .slice A2 nb cb] W fun e w' => ∃ A3 c3, e = .returned (.slice A3 n c3) ∧ U3 w' (.slice A3 n c3) (cvs a b) ∧ Ext W w' := by
  have e1 : a.length = na := by obtain ⟨_, _, e, _⟩ := h1; injection e with _ e _; exact e.symm
  have e2 : b.length = nb := by obtain ⟨_, _, e, _⟩ := h2; injection e with _ e _; exact e.symm
  refine (conv_all W hg _ _ a b h1 h2 (by omega) (by omega) _ rfl).mono ?_
  rintro e w' ⟨z, rfl, hz, hB⟩
  obtain ⟨A3, c3, e3, _⟩ := id hz
  rw [hn] at e3
  subst e3
  exact ⟨A3, c3, rfl, hz, hB⟩

set_option maxRecDepth 100000 in
set_option maxHeartbeats 8000000 in
theorem fast_core (b : Bool) (w : World) (hg : Gl w) (vx vy : Value) (xs ys : List Nat) (nx ny : Nat) (hx : U w vx xs) (hy : U w vy ys) (hnx : xs.length = nx) (hny : ys.length = ny) (hle : ny ≤ nx) (hb : b = true → ny < nx) (hn : nx ≤ 1000) :
    Calls Tryz.prog 59 #[(if b then vy else vx), (if b then vx else vy)] w fun e w' => (∃ u, e = .returned u ∧ Un w' u (val xs * val ys)) ∧ Ext w w' := by
  obtain ⟨A, ca, rfl, hca⟩ := hx.shape
  obtain ⟨A2, cb, rfl, hcb⟩ := hy.shape
  have HL : Hid (xs.length = nx ∧ ys.length = ny) := ⟨hnx, hny⟩
  rw [hnx] at hx hca ⊢
  rw [hny] at hy hcb ⊢
  have hlt : b = true → ny < nx := hb
  have hd32 : decide ((32768 : Int) < (ny : Int)) = false := by rw [decide_eq_false_iff_not]; omega
  clear hnx hny hb
  cases b
  case' false =>
    show Calls Tryz.prog 59 #[.slice A nx ca, .slice A2 ny cb] w _
    have hd : decide ((nx : Int) < (ny : Int)) = false := by rw [decide_eq_false_iff_not]; omega
    go_enter Tryz.func59, Tryz.ntmps59
    go_upto_region 3 with (fail)
  case' true =>
    show Calls Tryz.prog 59 #[.slice A2 ny cb, .slice A nx ca] w _
    have hlt' := hlt rfl
    have hd : decide ((ny : Int) < (nx : Int)) = true := by rw [decide_eq_true_iff]; omega
    go_enter Tryz.func59, Tryz.ntmps59
    go_upto_region 3 with (fail)
  all_goals
    clear hd hlt
    by_cases hny0 : ny = 0
    · have hys : ys = [] := List.length_eq_zero_iff.1 (by rw [HL.out.2]; exact hny0)
      have HF : Hid (∃ u', Ending.returned (.slice none 0 0) = .returned u' ∧ Un w u' (val xs * val ys)) := ⟨_, rfl, by rw [hys]; show Un w _ (val xs * 0); rw [Nat.mul_zero]; exact Un_nil w⟩
      have hE := Ext.refl w
      subst hny0
      clear hys
      go_wp2
      go_ret
      exact ⟨HF.out, hE⟩
    · have hz : (((ny : Nat) : Int) == 0) = false := by rw [beq_eq_false_iff_ne]; omega
      have hw4 : IntKind.u64.wrap (4 * (ny : Int)) = ((4 * ny : Nat) : Int) := by rw [IntKind.wrap_u64]; omega
      have h4 : (4 : Int) * (ny : Int) = ((4 * ny : Nat) : Int) := by omega
      have hw4' : IntKind.u64.wrap ((4 * ny : Nat) : Int) = ((4 * ny : Nat) : Int) := by rw [IntKind.wrap_u64]; omega
      have hm4 : ((4 * ny : Nat) : Int) % 18446744073709551616 = ((4 * ny : Nat) : Int) := by omega
      obtain ⟨L, hL⟩ : ∃ L, blen (4 * ny) = L := ⟨_, rfl⟩
      have hlen := Lib.hid (len_calls w (4 * ny) (by omega))
      rw [hL] at hlen
      have hQ1 := lt_pow_blen (4 * ny)
      have hQ2 := pow_blen_le (n := 4 * ny) (by omega)
      have hL1 : 1 ≤ L := by rw [← hL]; exact blen_pos (by omega)
      rw [hL] at hQ1 hQ2
      have hQ3 : 2 ^ L = 2 * 2 ^ (L - 1) := by rw [← Nat.pow_succ']; congr 1; omega
      obtain ⟨Q, hQ⟩ : ∃ Q, 2 ^ L = Q := ⟨_, rfl⟩
      rw [hQ] at hQ1 hQ3
      have hQ4 : Q ≤ 8 * ny := by omega
      have hsh : (2 : Int) ^ L = (Q : Int) := by rw [← hQ, Int.natCast_pow]; rfl
      have hL64 : L ≤ 20 := by
        rcases Nat.lt_or_ge 20 L with h | h
        · have : 2 ^ 21 ≤ 2 ^ L := Nat.pow_le_pow_right (by decide) h
          rw [hQ] at this
          have : (2 : Nat) ^ 21 = 2097152 := by decide
          omega
        · exact h
      clear hQ2 hQ3
      generalize 4 * ny = n4 at *
      go_wp2_with (fail)
      refine hlen.out.mono ?_
      rintro e w1 ⟨rfl, rfl⟩
      obtain ⟨q0, hq0⟩ : ∃ q0, Q - ny = q0 := ⟨_, rfl⟩
      have hq0i : (Q : Int) - (ny : Int) = (q0 : Int) := by omega
      have hq0a : 2 ≤ q0 := by omega
      have hq0b : q0 ≤ 8000 := by omega
      have hQw : IntKind.i64.wrap (Q : Int) = (Q : Int) := IntWalk.i64_in _ (by omega)
      have hmin1 : (if (32768 : Int) < (q0 : Int) then (32768 : Int) else (q0 : Int)) = (q0 : Int) := by split <;> omega
      have hmin2 : min (q0 : Int) 32768 = (q0 : Int) := by omega
      have hmin3 : (if 32768 < q0 then (32768 : Int) else (q0 : Int)) = (q0 : Int) := by split <;> omega
      have hand := i64_andNot1 q0 (by omega)
      obtain ⟨pc, hpc⟩ : ∃ pc, q0 - q0 % 2 = pc := ⟨_, rfl⟩
      obtain ⟨ph, hph⟩ : ∃ ph, q0 / 2 = ph := ⟨_, rfl⟩
      rw [hpc] at hand
      have hpp : pc = 2 * ph := by omega
      have hph1 : 1 ≤ ph := by omega
      have hph2 : ph ≤ 4000 := by omega
      have hpc1 : 2 ≤ pc := by omega
      have hpc2 : pc ≤ 8000 := by omega
      have HPP := Lib.hid hpp
      clear hpp
      obtain ⟨sh2, hsh2⟩ : ∃ sh2, (nx + ny) / 2 = sh2 := ⟨_, rfl⟩
      have hsi : ((nx : Int) + (ny : Int)) / 2 = (sh2 : Int) := by omega
      obtain ⟨m, hm⟩ : ∃ m, sh2 + 2 = m := ⟨_, rfl⟩
      have hmi : (sh2 : Int) + 2 = (m : Int) := by omega
      have hmm : nx + ny + 1 ≤ 2 * m := by omega
      have hmb : m ≤ 3000 := by omega
      obtain ⟨i0, hi, hz0, hz1, hz2⟩ := info_parts info64
      obtain ⟨B, hB⟩ : ∃ B, w.heap.size = B := ⟨_, rfl⟩
      have HBS := Lib.hid hB
      clear hlen hw4 h4 hw4' hm4 hL hQ1 hL1 hQ hQ4 hq0 hpc hph hq0a hph1 hph2
      go_wp2_with (at_make; refine wpList_make_full _ rfl _ _ 69 rfl w.heap.size 56 i0 (.int .u64 0) 1 Tryz.underlying69 hi hz0 hz1 _ _ _ _ m rfl rfl (by omega) (by omega) (by rw [hz2]; omega) (by unfold maxLen; omega) (Nat.le_refl _) ?_; intro w2 hown hgrow)
      have ho0 := Ow.zeros hown
      have hE0 : Ext w w2 := (Ext.refl w).grown hgrow (Nat.le_refl _) (fun _ h => by cases h)
      rw [hB] at ho0
      clear hown hgrow hi hz0 hz1 hz2 i0 hB
      have hS0 : Hid (FaI xs ys m (2 * 0) (List.replicate m 0)) := ⟨by simp, fun x hx => by simp at hx; omega, by simp [wal_zeros, val]⟩
      have hlimx := Lib.hid hx.lim
      have hlimy := Lib.hid hy.lim
      go_wp2
      go_loopw [7] (fun t wr => ∃ (ah : Nat) (o : List Nat), 2 * ah ≤ 20000 ∧ t = .int .i64 ((2 * ah : Nat) : Int) ∧ Hid (FaI xs ys m (2 * ah) o) ∧ Ow wr B (.slice (some ⟨B, 0, none⟩) m m) o ∧ Ext w wr) (fun t _ => nx - (intOf t).toNat)
      case atStart => exact ⟨0, _, by decide, rfl, hS0, ho0, hE0⟩
      case round =>
        clear hS0 ho0 hE0
        obtain ⟨ah, o, hah, rfl, HO, hown, hE⟩ := hrel
        obtain ⟨a, ha⟩ : ∃ a, 2 * ah = a := ⟨_, rfl⟩
        rw [ha] at hah HO ⊢
        have hahi : (a : Int) / 2 = (ah : Int) := by omega
        have HA := Lib.hid ha
        by_cases hlt : a < nx
        · obtain ⟨ad, cx, hvx, hcx, hbx, hcellx⟩ := hx.opened HL.out.1 (by omega)
          injection hvx with w1 w2 w3
          subst w1 w3
          clear w2 hcellx hbx hcx
          obtain ⟨e, he⟩ : ∃ e, min (a + pc) nx = e := ⟨_, rfl⟩
          obtain ⟨p, hpe⟩ : ∃ p, e - a = p := ⟨_, rfl⟩
          obtain ⟨r, hrn⟩ : ∃ r, m - ah = r := ⟨_, rfl⟩
          have hmn1 : (if (nx : Int) < (a : Int) + (pc : Int) then (nx : Int) else (a : Int) + (pc : Int)) = (e : Int) := by split <;> omega
          have hmn2 : min ((a : Int) + (pc : Int)) (nx : Int) = (e : Int) := by omega
          have hmn3 : (if nx < a + pc then (nx : Int) else (a : Int) + (pc : Int)) = (e : Int) := by split <;> omega
          have f1 : a < e := by omega
          have f2 : (a : Int) < (e : Int) := by omega
          have f3 : e ≤ ca := by omega
          have f4 : (e : Int) ≤ (ca : Int) := by omega
          have f5 : (a : Int) ≤ (e : Int) := by omega
          have f6 : ¬ (e = a) := by omega
          have f7 : (0 : Int) ≤ (a : Int) := by omega
          have f8 : ah < m := by omega
          have f9 : (ah : Int) < (m : Int) := by omega
          have f10 : (ah : Int) ≤ (m : Int) := by omega
          have f11 : ¬ (m = ah) := by omega
          have f12 : e ≤ nx := by omega
          have f13 : (0 : Int) ≤ (e : Int) := by omega
          have f14 : (e : Int) ≤ (nx : Int) := by omega
          have f16 : ah + r = m := by omega
          have f17 : (0 : Int) ≤ (ah : Int) := by omega
          have f18 : p ≤ 1000 := by omega
          have hm6 : m ≤ 1000000 := by omega
          have hwa : IntKind.i64.wrap (ah : Int) = (ah : Int) := IntWalk.i64_in _ (by omega)
          have hwa2 : IntKind.i64.wrap ((a : Int) / 2) = (ah : Int) := by rw [hahi]; exact hwa
          have hta2 : (a : Int).tdiv 2 = (ah : Int) := by rw [Int.tdiv_eq_ediv_of_nonneg (by omega)]; exact hahi
          obtain ⟨P, hP⟩ : ∃ P, (xs.take e).drop a = P := ⟨_, rfl⟩
          have hxp : U wr.drew (.slice (some (ad.add a)) p p) P := by
            rw [← hP]
            exact (((hx.below hE).take f12 (Nat.le_refl e)).drop_ (Nat.le_of_lt f1) hpe (Nat.le_refl _)).below (Ext.refl wr).drew
          have hyd : U wr.drew (.slice A2 ny cb) ys := (hy.below hE).below (Ext.refl wr).drew
          have hgD : Gl wr.drew := (hg.ext hE).ext (Ext.refl wr).drew
          have hlp : P.length = p := by rw [← hP, List.length_drop, List.length_take, HL.out.1]; omega
          obtain ⟨nc, hnc⟩ : ∃ nc, (cvs P ys).length = nc := ⟨_, rfl⟩
          have hncb : (cvs P ys).length ≤ 100000 := by have := cvs_len_le P ys; rw [hlp, HL.out.2] at this; omega
          have hC := Lib.hid (conv_M wr.drew hgD (some (ad.add a)) A2 p ny p cb P ys nc hxp hyd (by omega) (by omega) hnc)
          have hCa := Lib.hid (fun W v h => carry_calls W v (cvs P ys) h (cvs_ltM P ys hxp.lim hyd.lim (by omega)) hncb)
          obtain ⟨N, hN⟩ : ∃ N, val P * val ys = N := ⟨_, rfl⟩
          have hcv := cval_cvs P ys
          rw [hN] at hcv
          rw [hcv] at hCa
          have hNb : N < 4294967296 ^ (p + ny) := by
            have := lprod_lt hxp.lim hyd.lim
            rw [hN, hlp, HL.out.2] at this
            exact this
          have hNl := len_le_of_lt hNb
          obtain ⟨mw, hmw⟩ : ∃ mw, ((limbs N).length + 1) / 2 = mw := ⟨_, rfl⟩
          have hPk := Lib.hid (fun W v h => pack_calls W v (limbs N) h (by omega) mw hmw)
          have hwl := Lib.hid (packL_lt (limbs N) (limbs_lt N))
          have hwv : Hid (wal (packL (limbs N)) = N) := by rw [Hid, wal_packL, val_limbs]
          have hwn : Hid ((packL (limbs N)).length ≤ r) := by rw [Hid, packL_len, hmw]; omega
          have hcut := val_cut (xs.take e) a (by rw [List.length_take, HL.out.1]; omega)
          rw [List.take_take, Nat.min_eq_left (by omega), hP] at hcut
          have hHC := Lib.hid hcut
          have hTE : Hid (xs.take (a + pc) = xs.take e) := by
            rcases Nat.le_total (a + pc) nx with h | h
            · rw [Hid, ← he, Nat.min_eq_left h]
            · rw [Hid, ← he, Nat.min_eq_right h, List.take_of_length_le (by rw [HL.out.1]; exact h), List.take_of_length_le (by rw [HL.out.1]; exact Nat.le_refl _)]
          have hprod : Hid (val (xs.take e) * val ys < BB ^ m) := by
            have h1 := lprod_lt (as_ := xs.take e) (bs := ys) (fun x h => hlimx.out x (List.mem_of_mem_take h)) hlimy.out
            rw [Hid, bb_pow]
            refine Nat.lt_of_lt_of_le h1 (Nat.pow_le_pow_right (by decide) ?_)
            rw [List.length_take, HL.out.1, HL.out.2]; omega
          have hNN := Lib.hid hN
          have hownD : Ow wr.drew B (.slice (some ⟨B, 0, none⟩) m m) o := hown
          have hstep : Hid (a + pc = 2 * (ah + ph)) := by have := HPP.out; rw [Hid]; omega
          have hstep2 : a + pc ≤ 20000 := by omega
          clear hxp hyd hcut he hown hx hy hlp hP hN hcv hNb hNl hmw hnc hncb hgD ha
          go_wp2_with (fail)
          go_region_held3 (fun X => True)
            (first
              | exact trivial)
            (first
              | (go_at_call 82; ((with_reducible refine hC.out.mono ?_); rintro e3 w3 ⟨A3, c3, rfl, hz3, hB3⟩))
              | (go_at_call 81; ((with_reducible refine (hCa.out _ _ hz3).mono ?_); rintro e4 w4 ⟨⟨u4, rfl, hu4⟩, hB4⟩; have hu5 : U w4 u4 (limbs N) := hu4))
              | (go_at_call 73; ((with_reducible refine (hPk.out _ _ hu5).mono ?_); rintro e5 w5 ⟨rfl, ho5, hB5⟩; have hownE := ((hownD.ext hB3).ext hB4).ext hB5; have hg4 := hownD.block.2; have hs3 := hB3.size; have hs4 := hB4.size; have hV5 := ho5.toV hwl.out B (by omega)))
              | (go_at_call 80; ((with_reducible refine (addTo_calls w5 B B m m ah r r o _ _ hownE HO.out.lt (Nat.le_of_eq f16) (Nat.le_refl _) hm6 hV5 hwn.out).mono ?_); rintro e6 w6 ⟨⟨o6, cy6, rfl, hA6, ho6⟩, hB6⟩)))
          have hval : wal o + BB ^ ah * wal (packL (limbs N)) = val (xs.take e) * val ys := by
            rw [HO.out.val, hwv.out, bb_pow, HA.out, hHC.out, Nat.add_mul, Nat.mul_assoc, hNN.out]
          have hv6 := hA6.done f16 (by rw [hval]; exact hprod.out)
          rw [hval] at hv6
          have HST : Hid (FaI xs ys m (2 * (ah + ph)) o6) := ⟨hA6.len, hA6.lt, by rw [← hstep.out, hTE.out]; exact hv6⟩
          have hE6 : Ext w w6 := (((hE.drew.below hB3).below hB4).below hB5).but hB6 (by rw [HBS.out]; exact Nat.le_refl _)
          clear hv6 hA6 hB6 hB5 hB4 hB3 hval hC hCa hPk hV5 hownE ho5 hu4 hz3 hHC hTE hprod hownD HO hwl hwv hwn hNN
          go_wp2
          go_roundw
          case rel => exact ⟨ah + ph, _, by rw [← hstep.out]; exact hstep2, by rw [← hstep.out]; go_num, HST, ho6, hE6⟩
          case measure => simp [intOf]; omega
        · have hta : xs.take a = xs := List.take_of_length_le (by rw [HL.out.1]; omega)
          have hvv : Hid (wal o = val xs * val ys) := by rw [Hid, HO.out.val, hta]
          have hV := hown.toV HO.out.lt (B + 1) (by omega)
          have hol := HO.out.len
          clear hta HO hown
          go_wp2_with (fail)
          refine (unpack_calls _ _ _ o hV (by omega)).mono ?_
          rintro e5 w5 ⟨⟨u, rfl, hu⟩, hB⟩
          rw [hvv.out] at hu
          replace hE := hE.below hB
          have HF : Hid (∃ u', Ending.returned u = .returned u' ∧ Un w5 u' (val xs * val ys)) := ⟨_, rfl, hu⟩
          clear hB hu hvv
          go_wp2
          go_ret
          exact ⟨HF.out, hE⟩
theorem fast_calls (w : World) (hg : Gl w) (va vb : Value) (xs ys : List Nat) (ha : U w va xs) (hb : U w vb ys) (hla : xs.length ≤ 1000) (hlb : ys.length ≤ 1000) :
    Calls Tryz.prog 59 #[va, vb] w fun e w' => (∃ u, e = .returned u ∧ Un w' u (val xs * val ys)) ∧ Ext w w' := by
  by_cases hlt : xs.length < ys.length
  · have := fast_core true w hg vb va ys xs _ _ hb ha rfl rfl (by omega) (fun _ => hlt) hlb
    rw [Nat.mul_comm (val ys)] at this
    exact this
  · exact fast_core false w hg va vb xs ys _ _ ha hb rfl rfl (by omega) (fun h => by cases h) hla
end Go.Proofs.YtikajmmeglookaaGreatDoor
/- Products by whichever way; powers. -/
namespace Go.Proofs.YtikajmmeglookaaGreatDoor
open Go.RowKit
set_option linter.unusedVariables false
set_option maxHeartbeats 400000

theorem mul_calls' (w : World) (va vb : Value) (xs ys : List Nat) (ha : U w va xs) (hb : U w vb ys) (hla : xs.length ≤ 1000) (hlb : ys.length ≤ 1000) (h398 : min xs.length ys.length ≤ 398) :
    Calls Tryz.prog 39 #[va, vb] w fun e w' => (∃ u, e = .returned u ∧ Un w' u (val xs * val ys)) ∧ Ext w w' := by
  obtain ⟨A, ca, rfl, hca⟩ := ha.shape
  obtain ⟨A2, cb, rfl, hcb⟩ := hb.shape
  have hSc := Lib.hid (school_calls w _ _ xs ys ha hb hla hlb)
  have hKa := Lib.hid (karat_calls w _ _ xs ys ha hb hla hlb)
  have hTo := Lib.hid (toom_calls w _ _ xs ys ha hb hla hlb h398)
  generalize xs.length = lx at *
  generalize ys.length = ly at *
  obtain ⟨m, hm⟩ : ∃ m, min lx ly = m := ⟨_, rfl⟩
  have hm1 : (if (ly : Int) < (lx : Int) then (ly : Int) else (lx : Int)) = (m : Int) := by split <;> omega
  have hm3 : (if ly < lx then (ly : Int) else (lx : Int)) = (m : Int) := by split <;> omega
  obtain ⟨q, hq⟩ : ∃ q, (m + 1) / 2 = q := ⟨_, rfl⟩
  have hqi : ((m : Int) + 1) / 2 = (q : Int) := by omega
  have hq200 : q < 200 := by omega
  clear ha hb hm hq h398
  by_cases h40 : q < 40
  · have hd : decide ((q : Int) < 40) = true := by rw [decide_eq_true_iff]; omega
    go_enter Tryz.func39, Tryz.ntmps39
    go_wp2_with (fail)
    refine hSc.out.mono ?_
    rintro e w1 ⟨⟨u, rfl, hu⟩, hB⟩
    have HF : Hid (∃ u', Ending.returned u = .returned u' ∧ Un w1 u' (val xs * val ys)) := ⟨_, rfl, hu⟩
    clear hu
    go_wp2
    go_ret
    exact ⟨HF.out, hB⟩
  · have hd : decide ((q : Int) < 40) = false := by rw [decide_eq_false_iff_not]; omega
    have hd2 : decide ((q : Int) < 200) = true := by rw [decide_eq_true_iff]; omega
    go_enter Tryz.func39, Tryz.ntmps39
    go_wp2_with (fail)
    refine hKa.out.mono ?_
    rintro e w1 ⟨⟨u, rfl, hu⟩, hB⟩
    have HF : Hid (∃ u', Ending.returned u = .returned u' ∧ Un w1 u' (val xs * val ys)) := ⟨_, rfl, hu⟩
    clear hu
    go_wp2
    go_ret
    exact ⟨HF.out, hB⟩

/-- A number of at most so many limbs. -/
theorem len_of {n k : Nat} (h : n < LB ^ k) : (limbs n).length ≤ k := len_le_of_lt h
theorem U.asUn {w : World} {v : Value} {n : Nat} (h : Un w v n) : U w v (limbs n) := h
theorem un_lt {n : Nat} : n < LB ^ (limbs n).length := by
  have := val_lt (limbs n) (limbs_lt n)
  rwa [val_limbs] at this

/-- What a product asks for, and what it is. -/
def Pd (f : Nat) : Prop := ∀ (w : World) (va vb : Value) (n m k : Nat), Gl w → Un w va n → Un w vb m → (limbs n).length ≤ 398 → (limbs m).length ≤ 398 → n * m = k → Calls Tryz.prog f #[va, vb] w fun e w' => ∃ u, e = .returned u ∧ Un w' u k ∧ Ext w w'
theorem school_B : Pd 56 := fun w va vb n m k _ ha hb hn hm hk => by
  refine (school_calls w va vb _ _ ha hb (by omega) (by omega)).mono ?_
  rw [val_limbs, val_limbs, hk]
  rintro e w' ⟨⟨u, h1, h2⟩, h3⟩
  exact ⟨u, h1, h2, h3⟩
theorem karat_B : Pd 57 := fun w va vb n m k _ ha hb hn hm hk => by
  refine (karat_calls w va vb _ _ ha hb (by omega) (by omega)).mono ?_
  rw [val_limbs, val_limbs, hk]
  rintro e w' ⟨⟨u, h1, h2⟩, h3⟩
  exact ⟨u, h1, h2, h3⟩
theorem toom_B : Pd 58 := fun w va vb n m k _ ha hb hn hm hk => by
  refine (toom_calls w va vb _ _ ha hb (by omega) (by omega) (by omega)).mono ?_
  rw [val_limbs, val_limbs, hk]
  rintro e w' ⟨⟨u, h1, h2⟩, h3⟩
  exact ⟨u, h1, h2, h3⟩
theorem fast_B : Pd 59 := fun w va vb n m k hg ha hb hn hm hk => by
  refine (fast_calls w hg va vb _ _ ha hb (by omega) (by omega)).mono ?_
  rw [val_limbs, val_limbs, hk]
  rintro e w' ⟨⟨u, h1, h2⟩, h3⟩
  exact ⟨u, h1, h2, h3⟩
theorem mul_B : Pd 39 := fun w va vb n m k _ ha hb hn hm hk => by
  refine (mul_calls' w va vb _ _ ha hb (by omega) (by omega) (by omega)).mono ?_
  rw [val_limbs, val_limbs, hk]
  rintro e w' ⟨⟨u, h1, h2⟩, h3⟩
  exact ⟨u, h1, h2, h3⟩

end Go.Proofs.YtikajmmeglookaaGreatDoor
/- Quotient and rest, word by word. -/
namespace Go.Proofs.YtikajmmeglookaaGreatDoor
open Go.RowKit
set_option linter.unusedVariables false
set_option maxHeartbeats 400000

theorem bb_two (n : Nat) : BB ^ n = 2 ^ (64 * n) := by
  rw [Nat.pow_mul, show (2 : Nat) ^ 64 = BB from by decide]
theorem lb_two (n : Nat) : (4294967296 : Nat) ^ n = 2 ^ (32 * n) := by
  rw [Nat.pow_mul, show (2 : Nat) ^ 32 = 4294967296 from by decide]
theorem bb_lb (n : Nat) : BB ^ n = 4294967296 ^ (2 * n) := by
  rw [bb_two, lb_two]; congr 1; omega
/-- What is shifted so that the divisor's first bit is set. -/
theorem words_math (b L n sh V : Nat) (hL : (limbs b).length = L) (h2 : 2 ≤ L) (hn : (L + 1) / 2 = n) (hsh : 64 * n - blen b = sh) (hV : b * 2 ^ sh = V) :
    blen b ≤ 64 * n ∧ sh ≤ 64 ∧ V < BB ^ n ∧ 9223372036854775808 * BB ^ (n - 1) ≤ V ∧ (limbs V).length ≤ 2 * n := by
  have h1 : blen b ≤ 32 * L := by rw [← hL]; exact blen_le_len b
  have h3 : 4294967296 ^ (L - 1) ≤ b := le_of_lt_len (by omega)
  rw [lb_two] at h3
  have h4 := lt_blen_of_le h3
  have hb0 : b ≠ 0 := by
    intro e
    rw [e, limbs_zero] at hL
    simp at hL; omega
  have h5 := lt_pow_blen b
  have h6 := pow_blen_le hb0
  have h7 : V < BB ^ n := by
    rw [← hV, bb_two, show 64 * n = blen b + sh by omega, Nat.pow_add]
    exact Nat.mul_lt_mul_of_pos_right h5 (Nat.two_pow_pos _)
  refine ⟨by omega, by omega, h7, ?_, len_le_of_lt (by rw [← bb_lb]; exact h7)⟩
  have h8 : 2 ^ (blen b - 1) * 2 ^ sh ≤ V := by rw [← hV]; exact Nat.mul_le_mul_right _ h6
  rw [← Nat.pow_add, show blen b - 1 + sh = 63 + 64 * (n - 1) by omega, Nat.pow_add, ← bb_two, show (2 : Nat) ^ 63 = 9223372036854775808 from by decide] at h8
  exact h8
theorem words_high (A lA n m : Nat) (hA : (limbs A).length = lA) (hm : max ((lA + 1) / 2) n + 1 = m) : A < BB ^ (m - 1) := by
  have h1 := lt_pow_len A
  rw [hA] at h1
  refine Nat.lt_of_lt_of_le h1 ?_
  rw [bb_lb]
  exact Nat.pow_le_pow_right (by decide) (by omega)
theorem words_top (vs : List Nat) (k V : Nat) (hl : vs.length = k + 1) (hx : ∀ x ∈ vs, x < 18446744073709551616) (hv : wal vs = V) (h : 9223372036854775808 * BB ^ k ≤ V) : 9223372036854775808 ≤ lb vs k := by
  have h1 := wal_lt_top vs k hl hx
  rw [hv, Nat.mul_comm] at h1
  have h2 : 9223372036854775808 * BB ^ k < (lb vs k + 1) * BB ^ k := by omega
  have := Nat.lt_of_mul_lt_mul_right h2
  omega

set_option maxRecDepth 100000 in
set_option maxHeartbeats 8000000 in
theorem words_calls (w : World) (va vb : Value) (a b q r : Nat) (ha : Un w va a) (hb : Un w vb b) (hla : (limbs a).length ≤ 1000) (hlb : (limbs b).length ≤ 1000) (h2 : 2 ≤ (limbs b).length) (hq : a / b = q) (hr : a % b = r) :
    Calls Tryz.prog 51 #[va, vb] w fun e w' => (∃ x y, e = .returned (.tuple #[x, y]) ∧ Un w' x q ∧ Un w' y r) ∧ Ext w w' := by
  obtain ⟨L, hL⟩ : ∃ L, (limbs b).length = L := ⟨_, rfl⟩
  obtain ⟨n, hn⟩ : ∃ n, (L + 1) / 2 = n := ⟨_, rfl⟩
  obtain ⟨bl, hbl⟩ : ∃ bl, blen b = bl := ⟨_, rfl⟩
  obtain ⟨sh, hsh⟩ : ∃ sh, 64 * n - bl = sh := ⟨_, rfl⟩
  obtain ⟨V0, hV⟩ : ∃ V0, b * 2 ^ sh = V0 := ⟨_, rfl⟩
  obtain ⟨A0, hA⟩ : ∃ A0, a * 2 ^ sh = A0 := ⟨_, rfl⟩
  rw [hL] at hlb h2
  obtain ⟨m1, m2, m3, m4, m5⟩ := words_math b L n sh V0 hL h2 hn (by rw [hbl]; exact hsh) hV
  rw [hbl] at m1
  obtain ⟨lA, hlA⟩ : ∃ lA, (limbs A0).length = lA := ⟨_, rfl⟩
  have hlA2 : lA ≤ 1002 := by rw [← hlA, ← hA]; exact Nat.le_trans (len_shl_c a 1000 sh 2 hla (by omega)) (by omega)
  obtain ⟨h, hh⟩ : ∃ h, (lA + 1) / 2 = h := ⟨_, rfl⟩
  obtain ⟨mx, hmx⟩ : ∃ mx, max h n = mx := ⟨_, rfl⟩
  obtain ⟨m, hm⟩ : ∃ m, mx + 1 = m := ⟨_, rfl⟩
  have hAlt := words_high A0 lA n m hlA (by rw [hh, hmx]; exact hm)
  obtain ⟨k, hk⟩ : ∃ k, m - n = k := ⟨_, rfl⟩
  have hkm : k + n = m := by omega
  have hk1 : 1 ≤ k := by omega
  have hn1 : 1 ≤ n := by omega
  have hnb : n ≤ 501 := by omega
  have hmb : m ≤ 503 := by omega
  obtain ⟨n1, hn1e⟩ : ∃ n1, n = n1 + 1 := ⟨n - 1, by omega⟩
  have HBits := Lib.hid (bits_B w vb b hb (by omega) (bl : Int) (by rw [hbl]))
  have HShb := Lib.hid (fun W v (h : Un W v b) => shl_B W v b (sh : Int) h (Int.natCast_nonneg _) (by omega) (by omega) V0 (by rw [Int.toNat_natCast]; exact hV))
  have HSha := Lib.hid (fun W v (h : Un W v a) => shl_B W v a (sh : Int) h (Int.natCast_nonneg _) (by omega) (by omega) A0 (by rw [Int.toNat_natCast]; exact hA))
  have HPv := Lib.hid (fun W v (h : Un W v V0) => dpack_calls W v (limbs V0) h (by omega) n (by omega) (by omega))
  have HPa := Lib.hid (fun W v (h : Un W v A0) => dpack_calls W v (limbs A0) h (by omega) m (by rw [hlA]; omega) (by omega))
  have HTOP : Hid (∀ vs : List Nat, vs.length = n → (∀ x ∈ vs, x < 18446744073709551616) → wal vs = V0 → 9223372036854775808 ≤ lb vs n1) := fun vs e1 e2 e3 => words_top vs n1 V0 (by omega) e2 e3 (by rw [show n1 = n - 1 by omega]; exact m4)
  have HST0 : Hid (∀ o : List Nat, o.length = m → (∀ x ∈ o, x < 18446744073709551616) → wal o = A0 → WdI V0 A0 n m k o (List.replicate k 0)) := fun o e1 e2 e3 => WdI.start V0 A0 n m o k hkm (by omega) e1 e2 e3 hAlt (Nat.le_trans (Nat.le_mul_of_pos_left _ (by decide)) m4)
  have HLT := Lib.hid m3
  obtain ⟨R0, hR0⟩ : ∃ R0, r * 2 ^ sh = R0 := ⟨_, rfl⟩
  have HDN : Hid (∀ o ql, WdI V0 A0 n m 0 o ql → wal ql = q ∧ wal (o.take n) = R0) := fun o ql h => by
    obtain ⟨d1, d2⟩ := h.done m3 (by omega)
    rw [← hA, ← hV, Nat.mul_div_mul_right _ _ (Nat.two_pow_pos sh), hq] at d1
    rw [← hA, ← hV, Nat.mul_mod_mul_right, hr, hR0] at d2
    exact ⟨d1.symm, d2⟩
  have hrb : (limbs R0).length ≤ 1002 := by
    rw [← hR0]
    refine Nat.le_trans (len_shl_c r 1000 sh 2 ?_ (by omega)) (by omega)
    exact Nat.le_trans (len_mono (by rw [← hr]; exact Nat.mod_le _ _)) hla
  have HShr := Lib.hid (fun W v (h : Un W v R0) => shr_B W v R0 (sh : Int) h (Int.natCast_nonneg _) (by omega) (by omega) r (by rw [Int.toNat_natCast, ← hR0]; exact Nat.mul_div_cancel _ (Nat.two_pow_pos sh)))
  have HNN := Lib.hid (And.intro hn1e (And.intro hkm (And.intro hk1 (And.intro hn1 (And.intro hnb hmb)))))
  have e1 : ((L : Int) + 1) / 2 = (n : Int) := by omega
  have e2 : ((L : Int) + 1).tdiv 2 = (n : Int) := by rw [Int.tdiv_eq_ediv_of_nonneg (by omega)]; exact e1
  have e3 : (64 : Int) * (n : Int) - (bl : Int) = (sh : Int) := by omega
  have e4 : ((lA : Int) + 1) / 2 = (h : Int) := by omega
  have e5 : ((lA : Int) + 1).tdiv 2 = (h : Int) := by rw [Int.tdiv_eq_ediv_of_nonneg (by omega)]; exact e4
  have e6 : (if (h : Int) < (n : Int) then (n : Int) else (h : Int)) = (mx : Int) := by split <;> omega
  have e7 : (if h < n then (n : Int) else (h : Int)) = (mx : Int) := by split <;> omega
  have e8 : (mx : Int) + 1 = (m : Int) := by omega
  have e9 : (m : Int) - (n : Int) = (k : Int) := by omega
  have HBD := Lib.hid (And.intro hlb (And.intro hlA2 (show bl ≤ 64 * 501 by omega)))
  obtain ⟨Ab, cb, rfl, hcb⟩ := hb.shape
  rw [hL] at HBits
  have hb' : Un w (.slice Ab (limbs b).length cb) b := hb
  rw [hL] at hb' ⊢
  have HLA := Lib.hid hlA
  have hEw := Ext.refl w
  clear hb hL hn hbl hsh hV hA hlA hh hmx hm hk m1 m3 m4 m5 hAlt hq hr hR0 hn1e hkm hk1 hn1 hcb
  go_enter Tryz.func51, Tryz.ntmps51
  go_wp2_with (fail)
  refine HBits.out.mono ?_
  rintro e w1 ⟨rfl, hB⟩
  replace hb' := U.below (U.asUn hb') hB
  replace ha := U.below (U.asUn ha) hB
  replace hEw := hEw.below hB
  clear hB HBits
  go_wp2_with (fail)
  refine (HShb.out _ _ hb').mono ?_
  rintro e w2 ⟨v2, rfl, hv2, hB⟩
  replace ha := U.below (U.asUn ha) hB
  replace hEw := hEw.below hB
  clear hB HShb hb'
  go_wp2_with (fail)
  have hs2 := hEw.size
  refine (HPv.out _ _ hv2).mono ?_
  rintro e w3 ⟨rfl, ⟨vs, hov, hwv, hxv, hlv⟩, hB⟩
  rw [val_limbs] at hwv
  replace hov := hov.base_mono hs2
  replace ha := U.below (U.asUn ha) hB
  replace hEw := hEw.below hB
  clear hB HPv hv2
  generalize w2.heap.size = gv at *
  go_wp2_with (fail)
  refine (HSha.out _ _ ha).mono ?_
  rintro e w4 ⟨va4, rfl, hva, hB⟩
  replace hov := hov.ext hB
  replace hEw := hEw.below hB
  clear hB HSha ha
  obtain ⟨Aa, ca, rfl, hca⟩ := U.shape (U.asUn hva)
  rw [HLA.out] at hva ⊢
  go_wp2_with (fail)
  have hs4 := hEw.size
  have hvb := hov.block
  refine (HPa.out _ _ hva).mono ?_
  rintro e w5 ⟨rfl, ⟨o, hoa, hwa, hxa, hlo⟩, hB⟩
  rw [val_limbs] at hwa
  have hne1 : gv ≠ w4.heap.size := by omega
  replace hoa := hoa.base_mono hs4
  replace hov := hov.ext hB
  replace hEw := hEw.below hB
  clear hB HPa hva hca hvb
  generalize w4.heap.size = gu at *
  have hST := HST0.out o hlo hxa hwa
  have HSS := Lib.hid hST
  have htop := HTOP.out vs hlv hxv hwv
  have hs5 := hEw.size
  have hub := hoa.block
  have hvb := hov.block
  have hne2 : gu ≠ w5.heap.size := by omega
  have hne3 : gv ≠ w5.heap.size := by omega
  obtain ⟨i0, hi, hz0, hz1, hz2⟩ := info_parts info64
  have hkb : k ≤ 503 := by have := HNN.out; omega
  have hmb : m ≤ 503 := by have := HNN.out; omega
  have hnb : n ≤ 501 := by have := HNN.out; omega
  have HTP := Lib.hid htop
  have HWV := Lib.hid hwv
  have HXV := Lib.hid hxv
  clear hST htop hwv hxv hwa hxa HST0 HTOP
  go_wp2_with (at_make; refine wpList_make_full _ rfl _ _ 69 rfl w5.heap.size 56 i0 (.int .u64 0) 1 Tryz.underlying69 hi hz0 hz1 _ _ _ _ k rfl rfl (by omega) (by omega) (by rw [hz2]; omega) (by unfold maxLen; omega) (Nat.le_refl _) ?_; intro w6 hown hgrow)
  have hoq := Ow.zeros hown
  have hE6 : Ext w5 w6 := (Ext.refl w5).grown hgrow (Nat.le_refl _) (fun _ h => by cases h)
  replace hoq := hoq.base_mono hs5
  replace hoa := hoa.ext hE6
  replace hov := hov.ext hE6
  replace hEw := hEw.below hE6
  generalize w5.heap.size = gq at *
  have hgu := hoa.block.1
  clear hown hgrow hi hz0 hz1 hz2 i0 hE6 hub hvb hs2 hs4 hs5
  go_wp2
  go_loopw [11] (fun t wr => ∃ (j : Nat) (z : Int) (o ql : List Nat), j ≤ k ∧ t = .int .i64 z ∧ z = (j : Int) - 1 ∧ Hid (WdI V0 A0 n m j o ql) ∧ Ow wr w.heap.size (.slice (some ⟨gu, 0, none⟩) m m) o ∧ Ow wr w.heap.size (.slice (some ⟨gq, 0, none⟩) k k) ql ∧ Ow wr w.heap.size (.slice (some ⟨gv, 0, none⟩) n n) vs ∧ Ext w wr) (fun t _ => (intOf t + 1).toNat)
  case atStart => exact ⟨k, _, _, _, Nat.le_refl _, rfl, rfl, HSS, hoa, hoq, hov, hEw⟩
  case round =>
    clear hoa hoq hov hEw HSS
    obtain ⟨j, z, o, ql, hj, rfl, hz, HO, hoa, hoq, hov, hE⟩ := hrel
    cases j with
    | zero =>
      obtain rfl : z = -1 := by omega
      obtain ⟨d1, d2⟩ := HDN.out o ql HO.out
      have hq0 := hoq.toV HO.out.xq (gq + 1) (by omega)
      have hlq : ql.length ≤ 1000000 := by have := HO.out.lq; omega
      have hu0 := (hoa.toV HO.out.xo (gu + 1) (by omega)).take (k := n) (c' := m) (by have := HNN.out; omega) (by have := HNN.out; omega)
      have hun : (o.take n).length ≤ 1000000 := by rw [List.length_take]; omega
      have HU1 := Lib.hid (dunpack_calls _ _ _ _ (V.below hq0 ((Ext.refl wr).drew)) hlq q d1)
      have HU2 := Lib.hid (fun W (h : V (gu + 1) W (.slice (some ⟨gu, 0, none⟩) n m) (o.take n)) => dunpack_calls W _ _ _ h hun R0 d2)
      have hu1 := V.below hu0 ((Ext.refl wr).drew)
      have b1 : (n : Int) ≤ (m : Int) := by have := HNN.out; omega
      have b2 : n ≤ m := by have := HNN.out; omega
      have b3 : (0 : Int) ≤ (n : Int) := Int.natCast_nonneg n
      clear d1 d2 hq0 hlq hun hu0 hoa hoq hov HO HDN hz HTP HWV HXV HNN
      go_wp2_with (fail)
      go_region_held3 (fun X => True)
        (first
          | exact trivial)
        (first
          | (go_at_call 67; ((with_reducible refine HU1.out.mono ?_); rintro e wa ⟨⟨x1, rfl, hx1⟩, hB1⟩; have hu2 := hu1.below hB1))
          | (go_at_call 67; ((with_reducible refine (HU2.out _ hu2).mono ?_); rintro e wb ⟨⟨x2, rfl, hx2⟩, hB2⟩; have hx1b := U.below (U.asUn hx1) hB2))
          | (go_at_call 38; ((with_reducible refine (HShr.out _ _ hx2).mono ?_); rintro e wc ⟨x3, rfl, hx3, hB3⟩; have hx1c := U.below hx1b hB3)))
      have HF : Hid (∃ x y, Ending.returned (.tuple #[x1, x3]) = .returned (.tuple #[x, y]) ∧ Un wc x q ∧ Un wc y r) := ⟨_, _, rfl, hx1c, hx3⟩
      have hEF := ((hE.drew.below hB1).below hB2).below hB3
      clear hx1 hx2 hx3 hx1b hx1c hB1 hB2 hB3 hu1 hu2 HU1 HU2 HShr hE
      go_wp2
      go_ret2
      exact ⟨HF.out, hEF⟩
    | succ j =>
      obtain rfl : z = (j : Int) := by omega
      obtain ⟨hn1e, hkm, hk1, hn1, -, -⟩ := HNN.out
      obtain ⟨p1, p2, p3, p4⟩ := wd_part HO.out (by omega) HLT.out
      have hoa1 : Ow wr w.heap.size (.slice (some ⟨gu, 0, none⟩) m m) (Sg (o.take j) ((o.drop j).take (n + 1)) ((o.drop j).drop (n + 1))) := by rw [← sg_cut]; exact hoa
      have hV0 : V gu wr (.slice (some ⟨gv, 0, none⟩) n n) vs := hov.toV HXV.out gu hne1
      have hDig := Lib.hid (digit_calls wr gu w.heap.size m m j (m - j) _ _ _ vs _ hoa1 (fun x hx => HO.out.xo x (List.mem_of_mem_drop (List.mem_of_mem_take hx))) p4 n n1 hn1e p1 hlv (by omega) (by omega) hV0 HTP.out (by rw [HWV.out]; exact p2))
      have i1 : (j : Int) + (n : Int) + 1 ≤ (m : Int) := by omega
      have i2 : (j : Int) ≤ (j : Int) + (n : Int) + 1 := by omega
      have i3 : j ≤ m := by omega
      have i4 : j + n + 1 - j = n + 1 := by omega
      have i5 : ((j : Int) + (n : Int) + 1).toNat = j + n + 1 := by omega
      have i6 : j < k := by omega
      have i7 : j + 1 + n ≤ m := by omega
      clear hn1e hkm hk1 hn1 p1 p2 p3 p4 hoa1 hV0 hoa hz
      go_wp2_with (fail)
      refine hDig.out.mono ?_
      rintro e w7 ⟨⟨d, s', rfl, hd, hsl, hsx, hdm, hdv, hoa2⟩, hB⟩
      have HSN : Hid (WdI V0 A0 n m j (Sg (o.take j) s' ((o.drop j).drop (n + 1))) (ql.set j d)) := HO.out.step i7 HLT.out d (wal s') s' hsl hsx hd (by rw [← HWV.out]; exact hdm) rfl (by rw [← HWV.out]; exact hdv)
      have hq2 := hoq.but hB (show gq ≠ gu by omega)
      have hov2 := hov.but hB (show gv ≠ gu by omega)
      have hf := hq2.frozen j
      have hcz := hq2.cell (j := j) i6
      have hq3 := hq2.set_ j d
      have hBq : But gq w7 (w7.setCell ⟨gq, j, none⟩ (.int .u64 (d : Nat))) := (But.refl gq w7).setCell j _
      have hoa3 := hoa2.but hBq (show gu ≠ gq by omega)
      have hov3 := hov2.but hBq (show gv ≠ gq by omega)
      have hgq := hq2.block.1
      have hE3 := (hE.but hB hgu).setCell (p := ⟨gq, j, none⟩) hgq (.int .u64 (d : Nat))
      clear hDig hsl hsx hdm hdv hoa2 hB hq2 hov2 hBq hoq hov hE HO hd
      go_wp2
      go_roundw
      case rel => exact ⟨j, _, _, _, by omega, rfl, rfl, HSN, hoa3, hq3, hov3, hE3⟩
      case measure => simp [intOf]
end Go.Proofs.YtikajmmeglookaaGreatDoor
/- Powers; live questions. -/
namespace Go.Proofs.YtikajmmeglookaaGreatDoor
open Go.RowKit
set_option linter.unusedVariables false
set_option maxHeartbeats 400000

theorem pow_limbs {a q e n : Nat} (ha : a < LB ^ q) (he : e ≤ n) : (limbs (a ^ e)).length ≤ q * n + 1 := by
  refine len_of ?_
  have h1 : a ^ e ≤ (LB ^ q) ^ e := Nat.pow_le_pow_left (Nat.le_of_lt ha) e
  rw [← Nat.pow_mul] at h1
  have h2 : LB ^ (q * e) ≤ LB ^ (q * n) := Nat.pow_le_pow_right (by decide) (Nat.mul_le_mul_left _ he)
  have h3 : LB ^ (q * n + 1) = LB ^ (q * n) * LB := Nat.pow_succ _ _
  have h4 : 0 < LB ^ (q * n) := Nat.pow_pos (by decide)
  rw [h3]
  unfold LB at *
  omega
theorem i64_and1 (v : Nat) (h : v < 9223372036854775808) : bits .and .i64 (v : Int) 1 = ((v % 2 : Nat) : Int) := by
  have e1 : (BitVec.ofInt 64 1).toNat = 2 ^ 1 - 1 := by decide
  have key : (BitVec.ofInt 64 (v : Int) &&& BitVec.ofInt 64 1).toNat = v % 2 := by
    rw [BitVec.toNat_and, e1, Nat.and_two_pow_sub_one_eq_mod, BitVec.toNat_ofInt]; omega
  show IntKind.i64.wrap ((BitVec.ofInt 64 (v : Int) &&& BitVec.ofInt 64 1).toNat : Nat) = _
  rw [key, IntKind.wrap_i64]
  omega
theorem limbs_small (x : Nat) (h0 : x ≠ 0) (h : x < 4294967296) : limbs x = [x] := by
  rw [limbs_pos h0, Nat.mod_eq_of_lt h, Nat.div_eq_of_lt h, limbs_zero]
theorem pow_half (a n i : Nat) : a ^ (n / 2 ^ i) = a ^ (n / 2 ^ (i + 1)) * a ^ (n / 2 ^ (i + 1)) * (if n / 2 ^ i % 2 = 1 then a else 1) := by
  have e : n / 2 ^ (i + 1) = n / 2 ^ i / 2 := by rw [Nat.pow_succ, Nat.div_div_eq_div_mul]
  rw [e, ← Nat.pow_add]
  split
  · rw [← Nat.pow_succ]; congr 1; omega
  · rw [Nat.mul_one]; congr 1; omega

end Go.Proofs.YtikajmmeglookaaGreatDoor
