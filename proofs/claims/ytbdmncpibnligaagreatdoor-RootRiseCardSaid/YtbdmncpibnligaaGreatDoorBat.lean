/- The way of halves is right, for rows of any lengths. -/
import Derived.Test.YtbdmncpibnligaaGreatDoorBas
import Derived.Deep.Cut

namespace Go.Proofs.YtbdmncpibnligaaGreatDoor
open Go.RowKit
set_option linter.unusedVariables false
set_option maxHeartbeats 400000

theorem Prod.turn {w w' : World} {e : Ending} {na nb nx ny : Nat} {as_ bs xs ys : List Nat} (h : Prod w w' e nx ny xs ys) (hn : nx + ny = na + nb) (hv : wal xs * wal ys = wal as_ * wal bs) : Prod w w' e na nb as_ bs := by
  obtain ⟨g, c, o, he, ho, hv', hl⟩ := h
  rw [hn] at he ho
  exact ⟨g, c, o, he, ho, by rw [hv', hv], hl⟩
theorem Prod.base {w0 w w' : World} {e : Ending} {na nb : Nat} {as_ bs : List Nat} (h : Prod w w' e na nb as_ bs) (hB : Ext w0 w) : Prod w0 w' e na nb as_ bs := by
  obtain ⟨g, c, o, he, ho, hv', hl⟩ := h
  exact ⟨g, c, o, he, ho.base_mono hB.size, hv', hl⟩

theorem keepW {x y : World} {B : Nat} {v0 v1 v2 : Value} (h : B < x.heap.size ∧ x.cell? ⟨B, 0, none⟩ = some v0 ∧ x.cell? ⟨B, 1, none⟩ = some v1 ∧ x.cell? ⟨B, 2, none⟩ = some v2) (hB : Ext x y) :
    B < y.heap.size ∧ y.cell? ⟨B, 0, none⟩ = some v0 ∧ y.cell? ⟨B, 1, none⟩ = some v1 ∧ y.cell? ⟨B, 2, none⟩ = some v2 := by
  obtain ⟨h0, h1, h2, h3⟩ := h
  have hc := fun o => hB.cell (p := ⟨B, o, none⟩) h0
  exact ⟨Nat.lt_of_lt_of_le h0 hB.size, by rw [hc]; exact h1, by rw [hc]; exact h2, by rw [hc]; exact h3⟩
theorem keepWB {x y : World} {B g : Nat} {v0 v1 v2 : Value} (h : B < x.heap.size ∧ x.cell? ⟨B, 0, none⟩ = some v0 ∧ x.cell? ⟨B, 1, none⟩ = some v1 ∧ x.cell? ⟨B, 2, none⟩ = some v2) (hB : But g x y) (hne : B ≠ g) :
    B < y.heap.size ∧ y.cell? ⟨B, 0, none⟩ = some v0 ∧ y.cell? ⟨B, 1, none⟩ = some v1 ∧ y.cell? ⟨B, 2, none⟩ = some v2 := by
  obtain ⟨h0, h1, h2, h3⟩ := h
  have hc := fun o => hB.cell (p := ⟨B, o, none⟩) h0 hne
  exact ⟨Nat.lt_of_lt_of_le h0 hB.size, by rw [hc]; exact h1, by rw [hc]; exact h2, by rw [hc]; exact h3⟩
/-- The product of the first a words is there. -/
structure TmI (xs ys : List Nat) (n a : Nat) (o : List Nat) : Prop where
  len : o.length = n
  lt : ∀ x ∈ o, x < 18446744073709551616
  val : wal o = wal (xs.take a) * wal ys

set_option maxRecDepth 100000 in
set_option maxHeartbeats 8000000 in
theorem times_core (N : Nat) (hN : N ≤ 20000) (IH : TOk N) (b : Bool) (w : World) (q1 q2 : Nat) (vx vy : Value) (xs ys : List Nat) (nx ny : Nat) (hx : V q1 w vx xs) (hy : V q2 w vy ys) (hnx : xs.length = nx) (hny : ys.length = ny) (hle : ny ≤ nx) (hb : b = true → ny < nx) (hsum : nx + ny ≤ N) :
    Calls Tryz.prog 90 #[Wh, (if b then vy else vx), (if b then vx else vy)] w fun e w' => Prod w w' e nx ny xs ys ∧ Ext w w' := by
  have IHH := Lib.hid IH
  have hle' := hle
  obtain ⟨A, ca, rfl, hca⟩ := hx.shape
  obtain ⟨A2, cb, rfl, hcb⟩ := hy.shape
  rw [hnx] at hx hca ⊢
  rw [hny] at hy hcb ⊢
  have hE0 : Ext w (w.alloc (.cells #[.int .i64 40, .func (.func 106) #[] #[], .func (.func 86) #[] #[]] 98)) := (Ext.refl w).alloc _
  replace hx := hx.below hE0
  replace hy := hy.below hE0
  have HL : Hid (xs.length = nx ∧ ys.length = ny) := ⟨hnx, hny⟩
  clear IH hnx hny
  have hb0 : w.heap.size < (w.alloc (.cells #[.int .i64 40, .func (.func 106) #[] #[], .func (.func 86) #[] #[]] 98)).heap.size := by simp
  have hc0 : (w.alloc (.cells #[.int .i64 40, .func (.func 106) #[] #[], .func (.func 86) #[] #[]] 98)).cell? ⟨w.heap.size, 0, none⟩ = some (.int .i64 40) := by go_simp
  have hc1 : (w.alloc (.cells #[.int .i64 40, .func (.func 106) #[] #[], .func (.func 86) #[] #[]] 98)).cell? ⟨w.heap.size, 1, none⟩ = some (.func (.func 106) #[] #[]) := by go_simp
  have hc2 : (w.alloc (.cells #[.int .i64 40, .func (.func 106) #[] #[], .func (.func 86) #[] #[]] 98)).cell? ⟨w.heap.size, 2, none⟩ = some (.func (.func 86) #[] #[]) := by go_simp
  obtain ⟨B, hB⟩ : ∃ B, w.heap.size = B := ⟨_, rfl⟩
  rw [hB] at hc0 hc1 hc2 hb0
  have HBS := Lib.hid hB
  cases b
  case' false =>
    show Calls Tryz.prog 90 #[Wh, .slice A nx ca, .slice A2 ny cb] w _
    have hd : decide ((nx : Int) < (ny : Int)) = false := by rw [decide_eq_false_iff_not]; omega
    go_enter Tryz.func90, Tryz.ntmps90
    go_upto_region 3 with (fail)
  case' true =>
    show Calls Tryz.prog 90 #[Wh, .slice A2 ny cb, .slice A nx ca] w _
    have hlt := hb rfl
    have hd : decide ((ny : Int) < (nx : Int)) = true := by rw [decide_eq_true_iff]; omega
    go_enter Tryz.func90, Tryz.ntmps90
    go_upto_region 3 with (fail)
  all_goals
    clear hb hd hle
    generalize (w.alloc (.cells #[.int .i64 40, .func (.func 106) #[] #[], .func (.func 86) #[] #[]] 98)) = W1 at *
    by_cases h1 : ny < 40
    · have hd1 : decide ((ny : Int) < 40) = true := by rw [decide_eq_true_iff]; omega
      go_wp2_with (fail)
      refine (rows_calls _ q1 q2 _ _ xs ys hx hy nx ny HL.out.1 HL.out.2 (by omega)).mono ?_
      rintro e w2 ⟨hp, hB2⟩
      replace hp := hp.base hE0
      have hE2 := hE0.below hB2
      have HP := Lib.hid hp
      obtain ⟨g, c, o, rfl, _⟩ := hp
      go_wp2
      go_ret
      exact ⟨HP.out, hE2⟩
    · have hd1 : decide ((ny : Int) < 40) = false := by rw [decide_eq_false_iff_not]; omega
      by_cases h2 : nx < 2 * ny
      · have hd2 : decide ((nx : Int) < 2 * (ny : Int)) = true := by rw [decide_eq_true_iff]; omega
        go_wp2_with (fail)
        refine (halves_calls N IHH.out _ q1 q2 _ _ xs ys hx hy nx ny HL.out.1 HL.out.2 hle' h2 (by omega) hsum (by omega)).mono ?_
        rintro e w2 ⟨hp, hB2⟩
        replace hp := hp.base hE0
        have hE2 := hE0.below hB2
        have HP := Lib.hid hp
        obtain ⟨g, c, o, rfl, _⟩ := hp
        go_wp2
        go_ret
        exact ⟨HP.out, hE2⟩
      · have hd2 : decide ((nx : Int) < 2 * (ny : Int)) = false := by rw [decide_eq_false_iff_not]; omega
        have hny0 : 0 < ny := by omega
        obtain ⟨ad, cx, hvx, hcx, hbx, hnex, hcellx⟩ := hx.opened HL.out.1 (by omega)
        injection hvx with w1 w2 w3
        subst w1 w3
        clear w2 hcellx hnex hbx hcx
        obtain ⟨n, hn⟩ : ∃ n, nx + ny = n := ⟨_, rfl⟩
        have hni : (nx : Int) + (ny : Int) = (n : Int) := by omega
        obtain ⟨i0, hi, hz0, hz1, hz2⟩ := info_parts info64
        obtain ⟨Bz, hBz⟩ : ∃ Bz, W1.heap.size = Bz := ⟨_, rfl⟩
        have HBZ := Lib.hid hBz
        go_wp2_with (at_make; refine wpList_make_full _ rfl _ _ 92 rfl W1.heap.size 49 i0 (.int .u64 0) 1 Tryz.underlying92 hi hz0 hz1 _ _ _ _ n rfl rfl (by omega) (by omega) (by rw [hz2]; omega) (by unfold maxLen; omega) (Nat.le_refl _) ?_; intro w2 hown hgrow)
        have ho0 := Ow.zeros hown
        have hE2 : Ext W1 w2 := (Ext.refl W1).grown hgrow (Nat.le_refl _) (fun _ h => by cases h)
        rw [hBz] at ho0 hb0
        clear hown hgrow hi hz0 hz1 hz2 i0
        go_wp2_with (fail)
        have hTM0 : Hid (TmI xs ys n 0 (List.replicate n 0)) := ⟨by simp, fun x hx => by simp at hx; omega, by simp [wal_zeros, wal]⟩
        have hlimx := Lib.hid hx.lim
        have hlimy := Lib.hid hy.lim
        have hny2 : 2 * ny ≤ nx := by omega
        clear hd1 hd2 h1 h2 hni hBz
        go_loopw [8] (fun t wr => ∃ (a : Nat) (o : List Nat), a ≤ n ∧ t = .int .i64 (a : Nat) ∧ Hid (TmI xs ys n a o) ∧ Ow wr Bz (.slice (some ⟨Bz, 0, none⟩) n n) o ∧ Ext W1 wr) (fun t _ => nx - (intOf t).toNat)
        case atStart => exact ⟨0, _, Nat.zero_le _, rfl, hTM0, ho0, hE2⟩
        case round =>
          clear hTM0 ho0 hE2
          obtain ⟨a, o, han, rfl, HO, hown, hE⟩ := hrel
          by_cases hlt : a < nx
          · obtain ⟨e, he⟩ : ∃ e, min (a + ny) nx = e := ⟨_, rfl⟩
            obtain ⟨p, hpe⟩ : ∃ p, e - a = p := ⟨_, rfl⟩
            obtain ⟨r, hrn⟩ : ∃ r, n - a = r := ⟨_, rfl⟩
            have hmin1 : (if (nx : Int) < (a : Int) + (ny : Int) then (nx : Int) else (a : Int) + (ny : Int)) = (e : Int) := by split <;> omega
            have hmin2 : min ((a : Int) + (ny : Int)) (nx : Int) = (e : Int) := by omega
            have hmin3 : (if nx < a + ny then (nx : Int) else (a : Int) + (ny : Int)) = (e : Int) := by split <;> omega
            have f1 : a < e := by omega
            have f2 : (a : Int) < (e : Int) := by omega
            have f3 : e ≤ ca := by omega
            have f4 : (e : Int) ≤ (ca : Int) := by omega
            have f5 : (a : Int) ≤ (e : Int) := by omega
            have f6 : ¬ (e = a) := by omega
            have f7 : (0 : Int) ≤ (a : Int) := by omega
            have f8 : a < n := by omega
            have f9 : (a : Int) < (n : Int) := by omega
            have f10 : (a : Int) ≤ (n : Int) := by omega
            have f11 : ¬ (n = a) := by omega
            have f12 : e ≤ nx := by omega
            have f13 : (0 : Int) ≤ (e : Int) := by omega
            have f14 : (e : Int) ≤ (nx : Int) := by omega
            have f15 : p + ny ≤ r := by omega
            have f16 : a + r = n := by omega
            have hn6 : n ≤ 1000000 := by omega
            have hxp : V q1 wr.drew (.slice (some (ad.add a)) p p) ((xs.take e).drop a) := (((hx.below hE).take f12 (Nat.le_refl e)).drop (Nat.le_of_lt f1) hpe (Nat.le_refl _)).below (Ext.refl wr).drew
            have hyd : V q2 wr.drew (.slice A2 ny cb) ys := (hy.below hE).below (Ext.refl wr).drew
            have hlp : ((xs.take e).drop a).length = p := by rw [List.length_drop, List.length_take, HL.out.1]; omega
            have hT := Lib.hid (IHH.out wr.drew q1 q2 _ _ _ ys p ny hxp hyd hlp HL.out.2 (by omega))
            have hcut := wal_cut (xs.take e) a (by rw [List.length_take, HL.out.1]; omega)
            rw [List.take_take, Nat.min_eq_left (by omega)] at hcut
            have hHC := Lib.hid hcut
            have hTE : Hid (xs.take (a + ny) = xs.take e) := by
              rcases Nat.le_total (a + ny) nx with h | h
              · rw [Hid, ← he, Nat.min_eq_left h]
              · rw [Hid, ← he, Nat.min_eq_right h, List.take_of_length_le (by rw [HL.out.1]; exact h), List.take_of_length_le (by rw [HL.out.1]; exact Nat.le_refl _)]
            have hprod : Hid (wal (xs.take e) * wal ys < BB ^ n) := by
              have h1 := prod_lt (as_ := xs.take e) (bs := ys) (fun x h => hlimx.out x (List.mem_of_mem_take h)) hlimy.out
              refine Nat.lt_of_lt_of_le h1 (Nat.pow_le_pow_right (by decide) ?_)
              rw [List.length_take, HL.out.1, HL.out.2]; omega
            have hS0 : B < wr.drew.heap.size ∧ wr.drew.cell? ⟨B, 0, none⟩ = some (.int .i64 40) ∧ wr.drew.cell? ⟨B, 1, none⟩ = some (.func (.func 106) #[] #[]) ∧ wr.drew.cell? ⟨B, 2, none⟩ = some (.func (.func 86) #[] #[]) := by
              have hq : B < W1.heap.size := by rw [HBZ.out]; exact hb0
              have hc := fun o => hE.cell (p := ⟨B, o, none⟩) hq
              exact ⟨Nat.lt_of_lt_of_le hq hE.size, (hc 0).trans hc0, (hc 1).trans hc1, (hc 2).trans hc2⟩
            have hownD : Ow wr.drew Bz (.slice (some ⟨Bz, 0, none⟩) n n) o := hown
            generalize (xs.take e).drop a = P at *
            clear hxp hyd hcut he hown hx hy hlp f8
            go_wp2_with (fail)
            have hS0' := hS0
            go_region_held3 (fun X => B < X.heap.size ∧ X.cell? ⟨B, 0, none⟩ = some (.int .i64 40) ∧ X.cell? ⟨B, 1, none⟩ = some (.func (.func 106) #[] #[]) ∧ X.cell? ⟨B, 2, none⟩ = some (.func (.func 86) #[] #[]))
              (first
                | exact hS0
                | assumption
                | exact keepW (by assumption) (by assumption)
                | exact keepWB (by assumption) (by assumption) (by assumption))
              (first
                | (go_at_call 90; ((with_reducible refine hT.out.mono ?_); rintro e3 w3 ⟨hp, hB3⟩; obtain ⟨g3, c3, o3, rfl, ho3, hv3, hl3, hlen3⟩ := hp.open (p + ny) rfl; have hownE := hownD.ext hB3; have hg3 := ho3.block.1; have hg2b := hownD.block.2; have hV3 := ho3.toV hl3 Bz (by omega)))
                | (go_at_call 93; ((with_reducible refine (addTo_calls w3 Bz Bz n n a r r o o3 _ hownE HO.out.lt (Nat.le_of_eq f16) (Nat.le_refl _) hn6 hV3 (by rw [hlen3]; exact f15)).mono ?_); rintro e4 w4 ⟨⟨o6, cy6, rfl, hA6, ho6⟩, hB4⟩; have hBne : B ≠ Bz := Nat.ne_of_lt hb0)))
            have hval : wal o + BB ^ a * wal o3 = wal (xs.take e) * wal ys := by
              rw [HO.out.val, hv3, hHC.out, Nat.add_mul, Nat.mul_assoc]
            have hv6 := hA6.done f16 (by rw [hval]; exact hprod.out)
            rw [hval] at hv6
            have HST : Hid (TmI xs ys n (a + ny) o6) := ⟨hA6.len, hA6.lt, by rw [hTE.out]; exact hv6⟩
            have hE5 : Ext W1 w4 := (hE.drew.below hB3).but hB4 (by rw [HBZ.out]; exact Nat.le_refl _)
            clear hv6 hA6 hB4 hB3 hval hT hV3 hownE ho3 hp hHC hTE hprod hownD HO hS0 hS0'
            go_wp2
            go_roundw
            case rel => exact ⟨a + ny, _, by omega, by go_num, HST, ho6, hE5⟩
            case measure => simp [intOf]; omega
          · have hta : xs.take a = xs := List.take_of_length_le (by rw [HL.out.1]; omega)
            have HF : Hid (Prod w wr (.returned (.slice (some ⟨Bz, 0, none⟩) n n)) nx ny xs ys) := by
              refine ⟨Bz, n, o, by rw [hn], ?_, by rw [HO.out.val, hta], HO.out.lt⟩
              rw [hn]
              exact hown.base_mono (by rw [← HBZ.out]; exact hE0.size)
            have hEF := hE0.below hE
            clear hown HO hE
            go_wp2
            go_ret
            exact ⟨HF.out, hEF⟩
end Go.Proofs.YtbdmncpibnligaaGreatDoor
/- Products by halves and by thirds, of limbs. -/
namespace Go.Proofs.YtbdmncpibnligaaGreatDoor
open Go.RowKit
set_option linter.unusedVariables false
set_option maxHeartbeats 400000

theorem times_step (N : Nat) (hN : N ≤ 20000) (IH : TOk N) : TOk (N + 1) := by
  intro w q1 q2 va vb as_ bs na nb ha hb hna hnb hsum
  by_cases h : na < nb
  · refine (times_core N hN IH true w q2 q1 vb va bs as_ nb na hb ha hnb hna (by omega) (fun _ => h) (by omega)).mono ?_
    rintro e w' ⟨hp, hB⟩
    exact ⟨hp.turn (Nat.add_comm _ _) (Nat.mul_comm _ _), hB⟩
  · exact times_core N hN IH false w q1 q2 va vb as_ bs na nb ha hb hna hnb (by omega) (fun h => by cases h) (by omega)
theorem tok : ∀ N, N ≤ 20001 → TOk N
  | 0, _ => fun w q1 q2 va vb as_ bs na nb _ _ _ _ h => by omega
  | N + 1, h => times_step N (by omega) (tok N (by omega))
theorem times_B (w : World) (q1 q2 : Nat) (va vb : Value) (as_ bs : List Nat) (na nb : Nat) (ha : V q1 w va as_) (hb : V q2 w vb bs) (hna : as_.length = na) (hnb : bs.length = nb) (h : na + nb ≤ 20000) :
    Calls Tryz.prog 90 #[Wh, va, vb] w fun e w' => Prod w w' e na nb as_ bs ∧ Ext w w' := tok 20001 (Nat.le_refl _) w q1 q2 va vb as_ bs na nb ha hb hna hnb (by omega)

theorem byHalves_calls (w : World) : Calls Tryz.prog 89 #[] w fun e w' => e = .returned Wh ∧ Ext w w' := by
  have hE := (Ext.refl w).alloc (.cells #[.int .i64 40, .func (.func 106) #[] #[], .func (.func 86) #[] #[]] 98)
  go_enter Tryz.func89, Tryz.ntmps89
  go_wp2
  refine bodyPost_ret (v := Wh) ?_ rfl ⟨rfl, hE⟩
  simp [results, Tryz.results89, go_sem, *]

/-- The way of thirds, as the program has it. -/
abbrev Wt : Value := .agg #[.int .i64 200, .func (.func 107) #[] #[], .func (.func 90) #[Wh] #[]]
theorem byThirds_calls (w : World) : Calls Tryz.prog 91 #[] w fun e w' => e = .returned Wt ∧ Ext w w' := by
  go_enter Tryz.func91, Tryz.ntmps91
  go_wp2_with (fail)
  refine (byHalves_calls _).mono ?_
  rintro e w1 ⟨rfl, hB⟩
  have hlt : w.heap.size < (w.alloc (.cells #[.int .i64 0, .nilFunc, .nilFunc] 98)).heap.size := by simp
  have hc0 : w1.cell? ⟨w.heap.size, 0, none⟩ = some (.int .i64 0) := (hB.cell (p := ⟨w.heap.size, 0, none⟩) hlt).trans (by go_simp)
  have hc1 : w1.cell? ⟨w.heap.size, 1, none⟩ = some .nilFunc := (hB.cell (p := ⟨w.heap.size, 1, none⟩) hlt).trans (by go_simp)
  have hc2 : w1.cell? ⟨w.heap.size, 2, none⟩ = some .nilFunc := (hB.cell (p := ⟨w.heap.size, 2, none⟩) hlt).trans (by go_simp)
  have hf0 : w1.frozen? ⟨w.heap.size, 0, none⟩ = false := (hB.frozen (p := ⟨w.heap.size, 0, none⟩) hlt).trans (by go_simp)
  have hf1 : w1.frozen? ⟨w.heap.size, 1, none⟩ = false := (hB.frozen (p := ⟨w.heap.size, 1, none⟩) hlt).trans (by go_simp)
  have hf2 : w1.frozen? ⟨w.heap.size, 2, none⟩ = false := (hB.frozen (p := ⟨w.heap.size, 2, none⟩) hlt).trans (by go_simp)
  have hE := ((((Ext.refl w).alloc (.cells #[.int .i64 0, .nilFunc, .nilFunc] 98)).below hB).setCell (p := ⟨w.heap.size, 0, none⟩) (Nat.le_refl _) (.int .i64 200)).setCell (p := ⟨w.heap.size, 1, none⟩) (Nat.le_refl _) (.func (.func 107) #[] #[])
  have hE2 := hE.setCell (p := ⟨w.heap.size, 2, none⟩) (Nat.le_refl _) (.func (.func 90) #[Wh] #[])
  clear hE hB
  go_wp2
  refine bodyPost_ret (v := Wt) ?_ rfl ⟨rfl, hE2⟩
  simp [results, Tryz.results91, go_sem, *]

set_option maxRecDepth 100000 in
set_option maxHeartbeats 8000000 in
/-- The way of thirds, where the shorter row has less than 200 words. -/
theorem timesT_core (b : Bool) (w : World) (q1 q2 : Nat) (vx vy : Value) (xs ys : List Nat) (nx ny : Nat) (hx : V q1 w vx xs) (hy : V q2 w vy ys) (hnx : xs.length = nx) (hny : ys.length = ny) (hle : ny ≤ nx) (hb : b = true → ny < nx) (hsum : nx + ny ≤ 20000) (h200 : ny < 200) :
    Calls Tryz.prog 90 #[Wt, (if b then vy else vx), (if b then vx else vy)] w fun e w' => Prod w w' e nx ny xs ys ∧ Ext w w' := by
  obtain ⟨A, ca, rfl, hca⟩ := hx.shape
  obtain ⟨A2, cb, rfl, hcb⟩ := hy.shape
  rw [hnx] at hx hca ⊢
  rw [hny] at hy hcb ⊢
  have hE0 : Ext w (w.alloc (.cells #[.int .i64 200, .func (.func 107) #[] #[], .func (.func 90) #[Wh] #[]] 98)) := (Ext.refl w).alloc _
  replace hx := hx.below hE0
  replace hy := hy.below hE0
  have HL : Hid (xs.length = nx ∧ ys.length = ny) := ⟨hnx, hny⟩
  clear hnx hny
  have hd1 : decide ((ny : Int) < 200) = true := by rw [decide_eq_true_iff]; omega
  have hT := Lib.hid (times_B _ q1 q2 _ _ xs ys nx ny hx hy HL.out.1 HL.out.2 hsum)
  cases b
  case' false =>
    show Calls Tryz.prog 90 #[Wt, .slice A nx ca, .slice A2 ny cb] w _
    have hd : decide ((nx : Int) < (ny : Int)) = false := by rw [decide_eq_false_iff_not]; omega
    go_enter Tryz.func90, Tryz.ntmps90
  case' true =>
    show Calls Tryz.prog 90 #[Wt, .slice A2 ny cb, .slice A nx ca] w _
    have hlt := hb rfl
    have hd : decide ((ny : Int) < (nx : Int)) = true := by rw [decide_eq_true_iff]; omega
    go_enter Tryz.func90, Tryz.ntmps90
  all_goals
    go_wp2_with (fail)
    refine hT.out.mono ?_
    rintro e w2 ⟨hp, hB2⟩
    replace hp := hp.base hE0
    have hE2 := hE0.below hB2
    have HP := Lib.hid hp
    obtain ⟨g, c, o, rfl, _⟩ := hp
    clear hT
    go_wp2
    go_ret
    exact ⟨HP.out, hE2⟩
theorem timesT_B (w : World) (q1 q2 : Nat) (va vb : Value) (as_ bs : List Nat) (na nb : Nat) (ha : V q1 w va as_) (hb : V q2 w vb bs) (hna : as_.length = na) (hnb : bs.length = nb) (h : na + nb ≤ 20000) (h200 : min na nb < 200) :
    Calls Tryz.prog 90 #[Wt, va, vb] w fun e w' => Prod w w' e na nb as_ bs ∧ Ext w w' := by
  by_cases hlt : na < nb
  · refine (timesT_core true w q2 q1 vb va bs as_ nb na hb ha hnb hna (by omega) (fun _ => hlt) (by omega) (by omega)).mono ?_
    rintro e w' ⟨hp, hB⟩
    exact ⟨hp.turn (Nat.add_comm _ _) (Nat.mul_comm _ _), hB⟩
  · exact timesT_core false w q1 q2 va vb as_ bs na nb ha hb hna hnb (by omega) (fun h => by cases h) (by omega) (by omega)

set_option maxRecDepth 100000 in
set_option maxHeartbeats 2000000 in
theorem karat_calls (w : World) (va vb : Value) (xs ys : List Nat) (ha : U w va xs) (hb : U w vb ys) (hla : xs.length ≤ 1000) (hlb : ys.length ≤ 1000) :
    Calls Tryz.prog 65 #[va, vb] w fun e w' => (∃ u, e = .returned u ∧ Un w' u (val xs * val ys)) ∧ Ext w w' := by
  obtain ⟨na, hna⟩ : ∃ na, (xs.length + 1) / 2 = na := ⟨_, rfl⟩
  obtain ⟨nb, hnb⟩ : ∃ nb, (ys.length + 1) / 2 = nb := ⟨_, rfl⟩
  have hHW := Lib.hid (And.intro (wal_packL xs) (wal_packL ys))
  have hHP := Lib.hid (And.intro (packL_lt xs ha.lim) (packL_lt ys hb.lim))
  have hHL : Hid ((packL xs).length = na ∧ (packL ys).length = nb) := ⟨by rw [packL_len, hna], by rw [packL_len, hnb]⟩
  have hPa := Lib.hid (fun W h => pack_calls W va xs h (by omega) na hna)
  have hPb := Lib.hid (fun W h => pack_calls W vb ys h (by omega) nb hnb)
  have hna1 : na ≤ 501 := by omega
  have hnb1 : nb ≤ 501 := by omega
  have hE := Ext.refl w
  clear hna hnb
  go_enter Tryz.func65, Tryz.ntmps65
  go_wp2_with (fail)
  refine (byHalves_calls _).mono ?_
  rintro e w1 ⟨rfl, hB⟩
  replace hE := hE.below hB
  replace ha := ha.below hB
  replace hb := hb.below hB
  clear hB
  go_wp2_with (fail)
  refine (hPa.out _ ha).mono ?_
  rintro e w2 ⟨rfl, ho1, hB⟩
  replace hE := hE.below hB
  replace hb := hb.below hB
  clear hB ha
  go_wp2_with (fail)
  refine (hPb.out _ hb).mono ?_
  rintro e w3 ⟨rfl, ho2, hB⟩
  replace hE := hE.below hB
  replace ho1 := ho1.ext hB
  clear hB hb
  go_wp2_with (fail)
  refine (times_B w3 (w1.heap.size + 1) (w2.heap.size + 1) _ _ _ _ na nb (ho1.toV hHP.out.1 _ (by omega)) (ho2.toV hHP.out.2 _ (by omega)) hHL.out.1 hHL.out.2 (by omega)).mono ?_
  rintro e w4 ⟨hp, hB⟩
  obtain ⟨g, c, o, rfl, ho, hv, hl, hlen⟩ := hp.open (na + nb) rfl
  replace hE := hE.below hB
  clear hB ho1 ho2 hp
  go_wp2_with (fail)
  refine (unpack_calls w4 (g + 1) _ o (ho.toV hl _ (by omega)) (by omega)).mono ?_
  rintro e w5 ⟨⟨u, rfl, hu⟩, hB⟩
  rw [hv, hHW.out.1, hHW.out.2] at hu
  replace hE := hE.below hB
  have HF : Hid (∃ u', Ending.returned u = .returned u' ∧ Un w5 u' (val xs * val ys)) := ⟨_, rfl, hu⟩
  clear hB ho hu hv hl hlen
  go_wp2
  go_ret
  exact ⟨HF.out, hE⟩

set_option maxRecDepth 100000 in
set_option maxHeartbeats 2000000 in
theorem toom_calls (w : World) (va vb : Value) (xs ys : List Nat) (ha : U w va xs) (hb : U w vb ys) (hla : xs.length ≤ 1000) (hlb : ys.length ≤ 1000) (h398 : min xs.length ys.length ≤ 398) :
    Calls Tryz.prog 66 #[va, vb] w fun e w' => (∃ u, e = .returned u ∧ Un w' u (val xs * val ys)) ∧ Ext w w' := by
  obtain ⟨na, hna⟩ : ∃ na, (xs.length + 1) / 2 = na := ⟨_, rfl⟩
  obtain ⟨nb, hnb⟩ : ∃ nb, (ys.length + 1) / 2 = nb := ⟨_, rfl⟩
  have hHW := Lib.hid (And.intro (wal_packL xs) (wal_packL ys))
  have hHP := Lib.hid (And.intro (packL_lt xs ha.lim) (packL_lt ys hb.lim))
  have hHL : Hid ((packL xs).length = na ∧ (packL ys).length = nb) := ⟨by rw [packL_len, hna], by rw [packL_len, hnb]⟩
  have hPa := Lib.hid (fun W h => pack_calls W va xs h (by omega) na hna)
  have hPb := Lib.hid (fun W h => pack_calls W vb ys h (by omega) nb hnb)
  have hna1 : na ≤ 501 := by omega
  have hnb1 : nb ≤ 501 := by omega
  have hmin : min na nb < 200 := by omega
  have hE := Ext.refl w
  clear hna hnb
  go_enter Tryz.func66, Tryz.ntmps66
  go_wp2_with (fail)
  refine (byThirds_calls _).mono ?_
  rintro e w1 ⟨rfl, hB⟩
  replace hE := hE.below hB
  replace ha := ha.below hB
  replace hb := hb.below hB
  clear hB
  go_wp2_with (fail)
  refine (hPa.out _ ha).mono ?_
  rintro e w2 ⟨rfl, ho1, hB⟩
  replace hE := hE.below hB
  replace hb := hb.below hB
  clear hB ha
  go_wp2_with (fail)
  refine (hPb.out _ hb).mono ?_
  rintro e w3 ⟨rfl, ho2, hB⟩
  replace hE := hE.below hB
  replace ho1 := ho1.ext hB
  clear hB hb
  go_wp2_with (fail)
  refine (timesT_B w3 (w1.heap.size + 1) (w2.heap.size + 1) _ _ _ _ na nb (ho1.toV hHP.out.1 _ (by omega)) (ho2.toV hHP.out.2 _ (by omega)) hHL.out.1 hHL.out.2 (by omega) (by omega)).mono ?_
  rintro e w4 ⟨hp, hB⟩
  obtain ⟨g, c, o, rfl, ho, hv, hl, hlen⟩ := hp.open (na + nb) rfl
  replace hE := hE.below hB
  clear hB ho1 ho2 hp
  go_wp2_with (fail)
  refine (unpack_calls w4 (g + 1) _ o (ho.toV hl _ (by omega)) (by omega)).mono ?_
  rintro e w5 ⟨⟨u, rfl, hu⟩, hB⟩
  rw [hv, hHW.out.1, hHW.out.2] at hu
  replace hE := hE.below hB
  have HF : Hid (∃ u', Ending.returned u = .returned u' ∧ Un w5 u' (val xs * val ys)) := ⟨_, rfl, hu⟩
  clear hB ho hu hv hl hlen
  go_wp2
  go_ret
  exact ⟨HF.out, hE⟩
end Go.Proofs.YtbdmncpibnligaaGreatDoor
/- Products of limbs by school. -/
namespace Go.Proofs.YtbdmncpibnligaaGreatDoor
open Go.RowKit
set_option linter.unusedVariables false
set_option maxHeartbeats 400000

def LB : Nat := 4294967296
theorem lval_set (o : List Nat) (j x : Nat) (h : j < o.length) : val (o.set j x) + LB ^ j * lb o j = val o + LB ^ j * x := by
  rw [Nat.mul_comm (LB ^ j), Nat.mul_comm (LB ^ j)]; exact val_set o j x h
theorem lval_take_succ (xs : List Nat) (i : Nat) (h : i < xs.length) : val (xs.take (i + 1)) = val (xs.take i) + LB ^ i * lb xs i := by
  rw [Nat.mul_comm]; exact val_take_succ xs i h
theorem ladd_step (P S S' x y c d A v : Nat) (hset : S' + P * x = S + P * v) (hinv : S + P * c = A) (hd : x + y + c = v + LB * d) : S' + P * LB * d = A + P * y := by
  have h1 : P * (x + y + c) = P * (v + LB * d) := by rw [hd]
  rw [Nat.mul_add, Nat.mul_add, Nat.mul_add, ← Nat.mul_assoc] at h1
  omega
/-- The first i limbs, times y, are added. -/
structure LwI (o0 : List Nat) (n off : Nat) (A : Nat) (i : Nat) (o : List Nat) (cy : Nat) : Prop where
  len : o.length = n
  lt : ∀ x ∈ o, x < 4294967296
  cy1 : cy < 4294967296
  val : val o + LB ^ (off + i) * cy = A
  out : ∀ m, off + i ≤ m → lb o m = lb o0 m
theorem LwI.step {o0 : List Nat} {n off A i : Nat} {o : List Nat} {cy : Nat} (h : LwI o0 n off A i o cy) (hi : off + i < n) (t s d : Nat)
    (hs : lb o (off + i) + t + cy = s + LB * d) (hsb : s < 4294967296) (hd : d < 4294967296) : LwI o0 n off (A + LB ^ (off + i) * t) (i + 1) (o.set (off + i) s) d := by
  refine ⟨by simp [h.len], set_lt h.lt hsb, hd, ?_, fun m hm => ?_⟩
  · rw [← Nat.add_assoc, Nat.pow_succ]
    exact ladd_step _ _ _ _ _ _ _ _ _ (lval_set o (off + i) s (by rw [h.len]; exact hi)) h.val hs
  · rw [lb_set_other _ (by omega)]; exact h.out m (by omega)
/-- The product of the first i limbs is there, and nothing behind it. -/
structure LsI (as_ bs : List Nat) (n : Nat) (i : Nat) (o : List Nat) : Prop where
  len : o.length = n
  lt : ∀ x ∈ o, x < 4294967296
  val : val o = val as_ * val (bs.take i)
  out : ∀ m, i + as_.length ≤ m → lb o m = 0
theorem limb_math (t z cr s d u : Nat) (ht : t ≤ 18446744065119617025) (hz : z < 4294967296) (hc : cr < 4294967296) (hu : cr + (t + z) = u) (hs : u % 4294967296 = s) (hd : u / 4294967296 = d) :
    z + t + cr = s + LB * d ∧ s < 4294967296 ∧ d < 4294967296 ∧ u < 18446744073709551616 ∧ t + z < 18446744073709551616 := by
  unfold LB
  refine ⟨by omega, by omega, by omega, by omega, by omega⟩

set_option maxRecDepth 100000 in
set_option maxHeartbeats 8000000 in
theorem school_core (b : Bool) (w : World) (vx vy : Value) (xs ys : List Nat) (nx ny : Nat) (hx : U w vx xs) (hy : U w vy ys) (hnx : xs.length = nx) (hny : ys.length = ny) (hle : ny ≤ nx) (hb : b = true → ny < nx) (h12 : ny < 12) (hn : nx ≤ 1000) :
    Calls Tryz.prog 64 #[(if b then vy else vx), (if b then vx else vy)] w fun e w' => (∃ u, e = .returned u ∧ Un w' u (val xs * val ys)) ∧ Ext w w' := by
  obtain ⟨A, ca, rfl, ⟨hca, hma⟩, hxl, hxr⟩ := id hx
  obtain ⟨A2, cb, rfl, ⟨hcb, hmb⟩, hyl, hyr⟩ := id hy
  have HL : Hid (xs.length = nx ∧ ys.length = ny) := ⟨hnx, hny⟩
  have HTX := Lib.hid (fun k => lval_take_succ xs k)
  have HTY := Lib.hid (fun k => lval_take_succ ys k)
  have HT2 : Hid (xs.take nx = xs ∧ ys.take ny = ys) := ⟨by rw [← hnx]; exact List.take_length, by rw [← hny]; exact List.take_length⟩
  rw [hnx] at hca hma hxr ⊢
  rw [hny] at hcb hmb hyr ⊢
  obtain ⟨n, hnn⟩ : ∃ n, nx + ny = n := ⟨_, rfl⟩
  have hni : (nx : Int) + (ny : Int) = (n : Int) := by omega
  have hm1 : (if (ny : Int) < (nx : Int) then (ny : Int) else (nx : Int)) = (ny : Int) := by split <;> omega
  have hm2 : (if (nx : Int) < (ny : Int) then (nx : Int) else (ny : Int)) = (ny : Int) := by split <;> omega
  have hm3 : (if ny < nx then (ny : Int) else (nx : Int)) = (ny : Int) := by split <;> omega
  have hm4 : (if nx < ny then (nx : Int) else (ny : Int)) = (ny : Int) := by split <;> omega
  have hd12 : decide ((12 : Int) ≤ (ny : Int)) = false := by rw [decide_eq_false_iff_not]; omega
  obtain ⟨i0, hi, hz0, hz1, hz2⟩ := info_parts info32
  obtain ⟨B, hB⟩ : ∃ B, w.heap.size = B := ⟨_, rfl⟩
  have HBS := Lib.hid hB
  have hlt : b = true → ny < nx := hb
  clear hx hy hnx hny hb
  cases b
  case' false =>
    show Calls Tryz.prog 64 #[.slice A nx ca, .slice A2 ny cb] w _
    have hd : decide ((nx : Int) < (ny : Int)) = false := by rw [decide_eq_false_iff_not]; omega
    go_enter Tryz.func64, Tryz.ntmps64
    go_upto_region 5 with (fail)
  case' true =>
    show Calls Tryz.prog 64 #[.slice A2 ny cb, .slice A nx ca] w _
    have hlt' := hlt rfl
    have hd : decide ((ny : Int) < (nx : Int)) = true := by rw [decide_eq_true_iff]; omega
    go_enter Tryz.func64, Tryz.ntmps64
    go_upto_region 5 with (fail)
  all_goals
    clear hd hm1 hm2 hm3 hm4 hd12 hlt
    go_wp2_with (at_make; refine wpList_make_full _ rfl _ _ 22 rfl w.heap.size 36 i0 (.int .u32 0) 1 Tryz.underlying22 hi hz0 hz1 _ _ _ _ n rfl rfl (by omega) (by omega) (by rw [hz2]; omega) (by unfold maxLen; omega) (Nat.le_refl _) ?_; intro w1 hown hgrow)
    have ho0 : Own w1 w.heap.size (.slice (some ⟨w.heap.size, 0, none⟩) n n) (List.replicate n 0) := by
      have := Own.zeros hown
      rwa [List.length_replicate] at this
    have hE0 : Ext w w1 := (Ext.refl w).grown hgrow (Nat.le_refl _) (fun _ h => by cases h)
    rw [hB] at ho0
    clear hown hgrow hi hz0 hz1 hz2 i0
    have hS0 : Hid (LsI xs ys n 0 (List.replicate n 0)) := ⟨by simp, fun x hx => by simp at hx; omega, by simp [val_replicate_zero, val], fun m _ => lb_zeros _ _⟩
    go_wp2
    go_loopw [39] (fun t wr => ∃ (i : Nat) (o : List Nat), i ≤ ny ∧ t = .int .i64 (i : Nat) ∧ Hid (LsI xs ys n i o) ∧ Own wr B (.slice (some ⟨B, 0, none⟩) n n) o ∧ Ext w wr) (fun t _ => ny - (intOf t).toNat)
    case atStart => exact ⟨0, _, Nat.zero_le _, rfl, hS0, ho0, hE0⟩
    case round =>
      clear hS0 ho0 hE0
      obtain ⟨i, o, hib, rfl, HO, hown, hE⟩ := hrel
      by_cases hlt : i < ny
      · obtain ⟨ad2, rfl, hb2, hcell2⟩ := hyr (by omega)
        obtain ⟨ad, rfl, hb1, hcell1⟩ := hxr (by omega)
        have hc0 := (hE.cell (p := ad2.add i) (by rw [addr_add_block]; exact hb2)).trans (hcell2 i hlt)
        have hyb := lb_lt hyl i
        have hty := HTY.out i (by rw [HL.out.2]; exact hlt)
        obtain ⟨y, hyy⟩ : ∃ y, lb ys i = y := ⟨_, rfl⟩
        rw [hyy] at hc0 hyb hty
        have g1 : i < n := by omega
        have g2 : (i : Int) < (n : Int) := by omega
        have g3 : (i : Int) ≤ (i : Int) + (nx : Int) := by omega
        have g4 : (i : Int) + (nx : Int) ≤ (n : Int) := by omega
        have g5 : (0 : Int) ≤ (i : Int) := by omega
        have g6 : ((i : Int) + (nx : Int)).toNat = i + nx := by omega
        have g7 : i + nx - i = nx := by omega
        have g8 : ¬ (n = i) := by omega
        have g9 : IntKind.i64.wrap ((i : Int) + (nx : Int)) = (i : Int) + (nx : Int) := IntWalk.i64_in _ (by omega)
        have g10 : (0 : Int) ≤ (i : Int) + (nx : Int) := by omega
        go_wp2_with (fail)
        go_quiet (fail)
        go_wp2_with (fail)
        have HS1 : Hid (LwI o n i (val o + LB ^ i * (val (xs.take 0) * y)) 0 o 0) := ⟨HO.out.len, HO.out.lt, by decide, by simp [val], fun m _ => rfl⟩
        have hEd : Ext w (wr.drewN nq) := hE.below (ext_drewN _ _)
        have hownd : Own (wr.drewN nq) B (.slice (some ⟨B, 0, none⟩) n n) o := hown.ext (ext_drewN _ _)
        have HTYI : Hid (val (ys.take (i + 1)) = val (ys.take i) + LB ^ i * y) := hty
        have hno : Hid (lb o (i + nx) = 0) := HO.out.out _ (by rw [HL.out.1]; exact Nat.le_refl _)
        clear hyy hc0 hown hE hty
        go_loopw [53, 8] (fun t s wx => ∃ (j : Nat) (o2 : List Nat) (cy : Nat), j ≤ nx ∧ t = .int .i64 (j : Nat) ∧ s = .int .u64 (cy : Nat) ∧ Hid (LwI o n i (val o + LB ^ i * (val (xs.take j) * y)) j o2 cy) ∧ Own wx B (.slice (some ⟨B, 0, none⟩) n n) o2 ∧ Ext w wx) (fun t _ _ => nx - (intOf t).toNat)
        case atStart => exact ⟨0, o, 0, Nat.zero_le _, rfl, rfl, HS1, hownd, hEd⟩
        case round =>
          clear HS1 hownd hEd
          obtain ⟨j, o2, cy, hj, rfl, rfl, HW, hown, hE⟩ := hrel
          by_cases hjt : j < nx
          · have hc1 := (hE.cell (p := ad.add j) (by rw [addr_add_block]; exact hb1)).trans (hcell1 j hjt)
            have hxb := lb_lt hxl j
            have htk := HTX.out j (by rw [HL.out.1]; exact hjt)
            have hcz := hown.rd.2 (i + j) (by rw [HW.out.len]; omega)
            have hf := hown.frozen' (i + j)
            have hzb := lb_lt HW.out.lt (i + j)
            have hcy := HW.out.cy1
            obtain ⟨x, hxx⟩ : ∃ x, lb xs j = x := ⟨_, rfl⟩
            rw [hxx] at hc1 hxb htk
            obtain ⟨z, hzz⟩ : ∃ z, lb o2 (i + j) = z := ⟨_, rfl⟩
            rw [hzz] at hcz hzb
            obtain ⟨t, ht⟩ : ∃ t, x * y = t := ⟨_, rfl⟩
            have ht1 : t ≤ 18446744065119617025 := by rw [← ht]; exact sq_lt hxb hyb
            have hti : (x : Int) * (y : Int) = (t : Int) := by rw [← ht, Int.natCast_mul]
            obtain ⟨u, hu⟩ : ∃ u, cy + (t + z) = u := ⟨_, rfl⟩
            obtain ⟨s, hs⟩ : ∃ s, u % 4294967296 = s := ⟨_, rfl⟩
            obtain ⟨d, hd⟩ : ∃ d, u / 4294967296 = d := ⟨_, rfl⟩
            obtain ⟨hm, hsb, hdb, hub, htz⟩ := limb_math t z cy s d u ht1 hzb hcy hu hs hd
            have hst := HW.out.step (by omega) t s d (by rw [hzz]; exact hm) hsb hdb
            rw [Nat.add_assoc (val o), Nat.pow_add, Nat.mul_assoc, ← Nat.mul_add, ← ht, ← Nat.mul_assoc, ← Nat.add_mul, ← htk] at hst
            have HST := Lib.hid hst
            have hown2 := hown.set' (i + j) s
            have hE2 := hE.setCell (p := ⟨B, i + j, none⟩) (by rw [HBS.out]; exact Nat.le_refl _) (.int .u32 (s : Nat))
            have q1 : IntKind.u64.wrap (t : Int) = (t : Int) := by rw [IntKind.wrap_u64]; omega
            have q2 : IntKind.u64.wrap ((t : Int) + (z : Int)) = (t : Int) + (z : Int) := by rw [IntKind.wrap_u64]; omega
            have q3 : (cy : Int) + ((t : Int) + (z : Int)) = (u : Int) := by omega
            have q4 : IntKind.u64.wrap (u : Int) = (u : Int) := by rw [IntKind.wrap_u64]; omega
            have q5 : IntKind.u32.wrap (u : Int) = (s : Int) := by rw [IntKind.wrap_u32]; omega
            have q6 : (u : Int) % 4294967296 = (s : Int) := by omega
            have q7 : (u : Int) / 4294967296 = (d : Int) := by omega
            have q8 : IntKind.u64.wrap (x : Int) = (x : Int) := by rw [IntKind.wrap_u64]; omega
            have q9 : IntKind.u64.wrap (y : Int) = (y : Int) := by rw [IntKind.wrap_u64]; omega
            have q10 : IntKind.u64.wrap (z : Int) = (z : Int) := by rw [IntKind.wrap_u64]; omega
            have q11 : (u : Int) % 18446744073709551616 = (u : Int) := by omega
            have q12 : (t : Int) % 18446744073709551616 = (t : Int) := by omega
            have q13 : ((t : Int) + (z : Int)) % 18446744073709551616 = (t : Int) + (z : Int) := by omega
            have hbn : (ad.add j).block ≠ B := by rw [addr_add_block]; have := HBS.out; omega
            clear hst htk hxx hzz ht hu hs hd hm hown hE HW hxb hzb ht1 hcy
            go_wp2
            go_roundw
            case rel => exact ⟨j + 1, _, d, by omega, by go_num, rfl, HST, hown2, hE2⟩
            case measure => simp [intOf]; omega
          · obtain rfl : j = nx := by omega
            have hcz := hown.rd.2 (i + j) (by rw [HW.out.len]; omega)
            have hf := hown.frozen' (i + j)
            have hl0 : lb o2 (i + j) = 0 := by rw [HW.out.out _ (Nat.le_refl _)]; exact hno.out
            have hws := lval_set o2 (i + j) cy (by rw [HW.out.len]; omega)
            rw [hl0, Nat.mul_zero, Nat.add_zero, HW.out.val, HT2.out.1] at hws
            have hcz' : (Value.int .u32 (lb o2 (i + j) : Nat)) = .int .u32 0 := by rw [hl0]; rfl
            rw [hcz'] at hcz
            have hcyb := HW.out.cy1
            have q5 : IntKind.u32.wrap (cy : Int) = (cy : Int) := by rw [IntKind.wrap_u32]; omega
            have q6 : (cy : Int) % 4294967296 = (cy : Int) := by omega
            have hown2 := hown.set' (i + j) cy
            have hE2 := hE.setCell (p := ⟨B, i + j, none⟩) (by rw [HBS.out]; exact Nat.le_refl _) (.int .u32 (cy : Nat))
            have HST : Hid (LsI xs ys n (i + 1) (o2.set (i + j) cy)) := by
              refine ⟨by rw [List.length_set]; exact HW.out.len, set_lt HW.out.lt hcyb, ?_, fun m hm => ?_⟩
              · rw [hws, HTYI.out, Nat.mul_add, ← HO.out.val, Nat.mul_left_comm]
              · rw [HL.out.1] at hm
                rw [lb_set_other _ (by omega), HW.out.out _ (by omega)]
                exact HO.out.out m (by rw [HL.out.1]; omega)
            have g12 : (i : Int) + (j : Int) < (n : Int) := by omega
            have g13 : i + j < n := by omega
            clear hl0 hws hcz' hown hE HW hcyb HTYI hno
            go_wp2
            go_roundw
            case rel => exact ⟨i + 1, _, by omega, by go_num, HST, hown2, hE2⟩
            case measure => simp [intOf]; omega
      · obtain rfl : i = ny := by omega
        have hu := hown.toU HO.out.lt (by rw [HO.out.len]; omega)
        have hvv := HO.out.val
        rw [HT2.out.2] at hvv
        have HV := Lib.hid hvv
        clear hown HO hvv
        go_wp2_with (fail)
        refine (trim32_calls _ _ _ hu).mono ?_
        rintro e w2 ⟨⟨u, rfl, hu2⟩, rfl⟩
        rw [HV.out] at hu2
        have HF : Hid (∃ u', Ending.returned u = .returned u' ∧ Un wr u' (val xs * val ys)) := ⟨_, rfl, hu2⟩
        clear hu2 hu
        go_wp2
        go_ret
        exact ⟨HF.out, hE⟩
end Go.Proofs.YtbdmncpibnligaaGreatDoor
/- Products by school; sums of products, carried. -/
namespace Go.Proofs.YtbdmncpibnligaaGreatDoor
open Go.RowKit
set_option linter.unusedVariables false
set_option maxHeartbeats 400000

set_option maxRecDepth 100000 in
set_option maxHeartbeats 2000000 in
theorem school_big (w : World) (va vb : Value) (xs ys : List Nat) (ha : U w va xs) (hb : U w vb ys) (hla : xs.length ≤ 1000) (hlb : ys.length ≤ 1000) (h12 : 12 ≤ min xs.length ys.length) :
    Calls Tryz.prog 64 #[va, vb] w fun e w' => (∃ u, e = .returned u ∧ Un w' u (val xs * val ys)) ∧ Ext w w' := by
  obtain ⟨A, ca, rfl, hca⟩ := ha.shape
  obtain ⟨A2, cb, rfl, hcb⟩ := hb.shape
  obtain ⟨na, hna⟩ : ∃ na, (xs.length + 1) / 2 = na := ⟨_, rfl⟩
  obtain ⟨nb, hnb⟩ : ∃ nb, (ys.length + 1) / 2 = nb := ⟨_, rfl⟩
  have hHW := Lib.hid (And.intro (wal_packL xs) (wal_packL ys))
  have hHP := Lib.hid (And.intro (packL_lt xs ha.lim) (packL_lt ys hb.lim))
  have hHL : Hid ((packL xs).length = na ∧ (packL ys).length = nb) := ⟨by rw [packL_len, hna], by rw [packL_len, hnb]⟩
  have hPa := Lib.hid (fun W h => pack_calls W (.slice A xs.length ca) xs h (by omega) na hna)
  have hPb := Lib.hid (fun W h => pack_calls W (.slice A2 ys.length cb) ys h (by omega) nb hnb)
  have hna1 : na ≤ 501 := by omega
  have hnb1 : nb ≤ 501 := by omega
  generalize xs.length = lx at *
  generalize ys.length = ly at *
  obtain ⟨m, hm⟩ : ∃ m, min lx ly = m := ⟨_, rfl⟩
  have hm1 : (if (ly : Int) < (lx : Int) then (ly : Int) else (lx : Int)) = (m : Int) := by split <;> omega
  have hm3 : (if ly < lx then (ly : Int) else (lx : Int)) = (m : Int) := by split <;> omega
  have hd12 : decide ((12 : Int) ≤ (m : Int)) = true := by rw [decide_eq_true_iff]; omega
  have hE := Ext.refl w
  clear hna hnb h12 hm
  go_enter Tryz.func64, Tryz.ntmps64
  go_wp2_with (fail)
  refine (hPa.out _ ha).mono ?_
  rintro e w2 ⟨rfl, ho1, hB⟩
  replace hE := hE.below hB
  replace hb := hb.below hB
  clear hB ha
  go_wp2_with (fail)
  refine (hPb.out _ hb).mono ?_
  rintro e w3 ⟨rfl, ho2, hB⟩
  replace hE := hE.below hB
  replace ho1 := ho1.ext hB
  clear hB hb
  go_wp2_with (fail)
  refine (rows_calls w3 (w.heap.size + 1) (w2.heap.size + 1) _ _ _ _ (ho1.toV hHP.out.1 _ (by omega)) (ho2.toV hHP.out.2 _ (by omega)) na nb hHL.out.1 hHL.out.2 (by omega)).mono ?_
  rintro e w4 ⟨hp, hB⟩
  obtain ⟨g, c, o, rfl, ho, hv, hl, hlen⟩ := hp.open (na + nb) rfl
  replace hE := hE.below hB
  clear hB ho1 ho2 hp
  go_wp2_with (fail)
  refine (unpack_calls w4 (g + 1) _ o (ho.toV hl _ (by omega)) (by omega)).mono ?_
  rintro e w5 ⟨⟨u, rfl, hu⟩, hB⟩
  rw [hv, hHW.out.1, hHW.out.2] at hu
  replace hE := hE.below hB
  have HF : Hid (∃ u', Ending.returned u = .returned u' ∧ Un w5 u' (val xs * val ys)) := ⟨_, rfl, hu⟩
  clear hB ho hu hv hl hlen
  go_wp2
  go_ret
  exact ⟨HF.out, hE⟩
theorem school_calls (w : World) (va vb : Value) (xs ys : List Nat) (ha : U w va xs) (hb : U w vb ys) (hla : xs.length ≤ 1000) (hlb : ys.length ≤ 1000) :
    Calls Tryz.prog 64 #[va, vb] w fun e w' => (∃ u, e = .returned u ∧ Un w' u (val xs * val ys)) ∧ Ext w w' := by
  by_cases h : 12 ≤ min xs.length ys.length
  · exact school_big w va vb xs ys ha hb hla hlb h
  · by_cases hlt : xs.length < ys.length
    · have := school_core true w vb va ys xs _ _ hb ha rfl rfl (by omega) (fun _ => hlt) (by omega) hlb
      rw [Nat.mul_comm (val ys)] at this
      exact this
    · exact school_core false w va vb xs ys _ _ ha hb rfl rfl (by omega) (fun h => by cases h) (by omega) hla
end Go.Proofs.YtbdmncpibnligaaGreatDoor
