/- Products by transforms. -/
import Derived.Test.YtkmejhkdmnjbeaaDoorPf
import Derived.Laws.IdiomArrays
import Derived.WideKeyPair
import Derived.WideKeyArr2

namespace Go.Proofs.YtkmejhkdmnjbeaaDoor
open Go.RowKit
set_option linter.unusedVariables false
set_option maxHeartbeats 400000

theorem bb_pow (k : Nat) : BB ^ k = LB ^ (2 * k) := by rw [Nat.pow_mul]; rfl
theorem cvs_ltM (a b : List Nat) (ha : ∀ x ∈ a, x < 4294967296) (hb : ∀ x ∈ b, x < 4294967296) (hl : a.length ≤ 100000) : ∀ x ∈ cvs a b, x < 79228162514264337593543950336 := by
  intro x hx
  unfold cvs at hx
  split at hx
  · cases hx
  · obtain ⟨m, _, rfl⟩ := List.mem_map.1 hx
    have h1 := cv_le a b ha hb a.length m
    have h2 := Nat.mul_le_mul_right 18446744065119617025 hl
    omega
theorem cvs_len_le (a b : List Nat) : (cvs a b).length ≤ a.length + b.length := by
  unfold cvs
  split
  · simp
  · rw [conv_len]; omega
/-- The product of the first a limbs is there, in words. -/
structure FaI (xs ys : List Nat) (m a : Nat) (o : List Nat) : Prop where
  len : o.length = m
  lt : ∀ x ∈ o, x < 18446744073709551616
  val : wal o = val (xs.take a) * val ys
theorem lprod_lt {as_ bs : List Nat} (ha : ∀ x ∈ as_, x < 4294967296) (hb : ∀ x ∈ bs, x < 4294967296) : val as_ * val bs < LB ^ (as_.length + bs.length) := by
  rw [Nat.pow_add]
  exact Nat.mul_lt_mul'' (val_lt as_ ha) (val_lt bs hb)
theorem U.drop_ {w : World} {ad : Addr} {n c : Nat} {xs : List Nat} (h : U w (.slice (some ad) n c) xs) {k m c' : Nat} (hk : k ≤ n) (hm : n - k = m) (hc' : m ≤ c') : U w (.slice (some (ad.add k)) m c') (xs.drop k) := by
  obtain ⟨A, c, hv, hc, hx, hr⟩ := h
  injection hv with h1 h2 h3
  subst h1 h2 h3
  have hlen : (xs.drop k).length = m := by simp; omega
  refine ⟨_, c', by rw [hlen], by omega, fun x hx' => hx x (List.mem_of_mem_drop hx'), fun h0 => ?_⟩
  obtain ⟨ad', hA, hb, hcell⟩ := hr (by omega)
  injection hA with hA
  subst hA
  refine ⟨_, rfl, by rw [addr_add_block]; exact hb, fun j hj => ?_⟩
  rw [addr_add_add, hcell (k + j) (by omega), lb_drop]
theorem conv_M (W : World) (hg : Gl W) (A A2 : Option Addr) (na nb ca cb : Nat) (a b : List Nat) (n : Nat) (h1 : U W (.slice A na ca) a) (h2 : U W (.slice A2 nb cb) b) (hna : na ≤ 30000) (hnb : nb ≤ 30000) (hn : (cvs a b).length = n) :
    Calls Tryd.prog 35 #[.slice A na ca, .slice A2 nb cb] W fun e w' => ∃ A3 c3, e = .returned (.slice A3 n c3) ∧ U3 w' (.slice A3 n c3) (cvs a b) ∧ Ext W w' := by
  have e1 : a.length = na := by obtain ⟨_, _, e, _⟩ := h1; injection e with _ e _; exact e.symm
  have e2 : b.length = nb := by obtain ⟨_, _, e, _⟩ := h2; injection e with _ e _; exact e.symm
  refine (conv_all W hg _ _ a b h1 h2 (by omega) (by omega) _ rfl).mono ?_
  rintro e w' ⟨z, rfl, hz, hB⟩
  obtain ⟨A3, c3, e3, _⟩ := id hz
  rw [hn] at e3
  subst e3
  exact ⟨A3, c3, rfl, hz, hB⟩

set_option maxRecDepth 100000 in
set_option maxHeartbeats 8000000 in
theorem fast_core (b : Bool) (w : World) (hg : Gl w) (vx vy : Value) (xs ys : List Nat) (nx ny : Nat) (hx : U w vx xs) (hy : U w vy ys) (hnx : xs.length = nx) (hny : ys.length = ny) (hle : ny ≤ nx) (hb : b = true → ny < nx) (hn : nx ≤ 1000) :
    Calls Tryd.prog 19 #[(if b then vy else vx), (if b then vx else vy)] w fun e w' => (∃ u, e = .returned u ∧ Un w' u (val xs * val ys)) ∧ Ext w w' := by
  obtain ⟨A, ca, rfl, hca⟩ := hx.shape
  obtain ⟨A2, cb, rfl, hcb⟩ := hy.shape
  have HL : Hid (xs.length = nx ∧ ys.length = ny) := ⟨hnx, hny⟩
  rw [hnx] at hx hca ⊢
  rw [hny] at hy hcb ⊢
  have hlt : b = true → ny < nx := hb
  have hd32 : decide ((32768 : Int) < (ny : Int)) = false := by rw [decide_eq_false_iff_not]; omega
  clear hnx hny hb
  cases b
  case' false =>
    show Calls Tryd.prog 19 #[.slice A nx ca, .slice A2 ny cb] w _
    have hd : decide ((nx : Int) < (ny : Int)) = false := by rw [decide_eq_false_iff_not]; omega
    go_enter Tryd.func19, Tryd.ntmps19
    go_upto_region 3 with (fail)
  case' true =>
    show Calls Tryd.prog 19 #[.slice A2 ny cb, .slice A nx ca] w _
    have hlt' := hlt rfl
    have hd : decide ((ny : Int) < (nx : Int)) = true := by rw [decide_eq_true_iff]; omega
    go_enter Tryd.func19, Tryd.ntmps19
    go_upto_region 3 with (fail)
  all_goals
    clear hd hlt
    by_cases hny0 : ny = 0
    · have hys : ys = [] := List.length_eq_zero_iff.1 (by rw [HL.out.2]; exact hny0)
      have HF : Hid (∃ u', Ending.returned (.slice none 0 0) = .returned u' ∧ Un w u' (val xs * val ys)) := ⟨_, rfl, by rw [hys]; show Un w _ (val xs * 0); rw [Nat.mul_zero]; exact Un_nil w⟩
      have hE := Ext.refl w
      subst hny0
      clear hys
      go_wp2
      go_ret
      exact ⟨HF.out, hE⟩
    · have hz : (((ny : Nat) : Int) == 0) = false := by rw [beq_eq_false_iff_ne]; omega
      have hw4 : IntKind.u64.wrap (4 * (ny : Int)) = ((4 * ny : Nat) : Int) := by rw [IntKind.wrap_u64]; omega
      have h4 : (4 : Int) * (ny : Int) = ((4 * ny : Nat) : Int) := by omega
      have hw4' : IntKind.u64.wrap ((4 * ny : Nat) : Int) = ((4 * ny : Nat) : Int) := by rw [IntKind.wrap_u64]; omega
      have hm4 : ((4 * ny : Nat) : Int) % 18446744073709551616 = ((4 * ny : Nat) : Int) := by omega
      obtain ⟨L, hL⟩ : ∃ L, blen (4 * ny) = L := ⟨_, rfl⟩
      have hlen := Lib.hid (len_calls w (4 * ny) (by omega))
      rw [hL] at hlen
      have hQ1 := lt_pow_blen (4 * ny)
      have hQ2 := pow_blen_le (n := 4 * ny) (by omega)
      have hL1 : 1 ≤ L := by rw [← hL]; exact blen_pos (by omega)
      rw [hL] at hQ1 hQ2
      have hQ3 : 2 ^ L = 2 * 2 ^ (L - 1) := by rw [← Nat.pow_succ']; congr 1; omega
      obtain ⟨Q, hQ⟩ : ∃ Q, 2 ^ L = Q := ⟨_, rfl⟩
      rw [hQ] at hQ1 hQ3
      have hQ4 : Q ≤ 8 * ny := by omega
      have hsh : (2 : Int) ^ L = (Q : Int) := by rw [← hQ, Int.natCast_pow]; rfl
      have hL64 : L ≤ 20 := by
        rcases Nat.lt_or_ge 20 L with h | h
        · have : 2 ^ 21 ≤ 2 ^ L := Nat.pow_le_pow_right (by decide) h
          rw [hQ] at this
          have : (2 : Nat) ^ 21 = 2097152 := by decide
          omega
        · exact h
      clear hQ2 hQ3
      generalize 4 * ny = n4 at *
      go_wp2_with (fail)
      refine hlen.out.mono ?_
      rintro e w1 ⟨rfl, rfl⟩
      obtain ⟨q0, hq0⟩ : ∃ q0, Q - ny = q0 := ⟨_, rfl⟩
      have hq0i : (Q : Int) - (ny : Int) = (q0 : Int) := by omega
      have hq0a : 2 ≤ q0 := by omega
      have hq0b : q0 ≤ 8000 := by omega
      have hQw : IntKind.i64.wrap (Q : Int) = (Q : Int) := IntWalk.i64_in _ (by omega)
      have hmin1 : (if (32768 : Int) < (q0 : Int) then (32768 : Int) else (q0 : Int)) = (q0 : Int) := by split <;> omega
      have hmin2 : min (q0 : Int) 32768 = (q0 : Int) := by omega
      have hmin3 : (if 32768 < q0 then (32768 : Int) else (q0 : Int)) = (q0 : Int) := by split <;> omega
      have hand := i64_andNot1 q0 (by omega)
      obtain ⟨pc, hpc⟩ : ∃ pc, q0 - q0 % 2 = pc := ⟨_, rfl⟩
      obtain ⟨ph, hph⟩ : ∃ ph, q0 / 2 = ph := ⟨_, rfl⟩
      rw [hpc] at hand
      have hpp : pc = 2 * ph := by omega
      have hph1 : 1 ≤ ph := by omega
      have hph2 : ph ≤ 4000 := by omega
      have hpc1 : 2 ≤ pc := by omega
      have hpc2 : pc ≤ 8000 := by omega
      have HPP := Lib.hid hpp
      clear hpp
      obtain ⟨sh2, hsh2⟩ : ∃ sh2, (nx + ny) / 2 = sh2 := ⟨_, rfl⟩
      have hsi : ((nx : Int) + (ny : Int)) / 2 = (sh2 : Int) := by omega
      obtain ⟨m, hm⟩ : ∃ m, sh2 + 2 = m := ⟨_, rfl⟩
      have hmi : (sh2 : Int) + 2 = (m : Int) := by omega
      have hmm : nx + ny + 1 ≤ 2 * m := by omega
      have hmb : m ≤ 3000 := by omega
      obtain ⟨i0, hi, hz0, hz1, hz2⟩ := info_parts info64
      obtain ⟨B, hB⟩ : ∃ B, w.heap.size = B := ⟨_, rfl⟩
      have HBS := Lib.hid hB
      clear hlen hw4 h4 hw4' hm4 hL hQ1 hL1 hQ hQ4 hq0 hpc hph hq0a hph1 hph2
      go_wp2_with (at_make; refine wpList_make_full _ rfl _ _ 53 rfl w.heap.size 36 i0 (.int .u64 0) 1 Tryd.underlying53 hi hz0 hz1 _ _ _ _ m rfl rfl (by omega) (by omega) (by rw [hz2]; omega) (by unfold maxLen; omega) (Nat.le_refl _) ?_; intro w2 hown hgrow)
      have ho0 := Ow.zeros hown
      have hE0 : Ext w w2 := (Ext.refl w).grown hgrow (Nat.le_refl _) (fun _ h => by cases h)
      rw [hB] at ho0
      clear hown hgrow hi hz0 hz1 hz2 i0 hB
      have hS0 : Hid (FaI xs ys m (2 * 0) (List.replicate m 0)) := ⟨by simp, fun x hx => by simp at hx; omega, by simp [wal_zeros, val]⟩
      have hlimx := Lib.hid hx.lim
      have hlimy := Lib.hid hy.lim
      go_wp2
      go_loopw [7] (fun t wr => ∃ (ah : Nat) (o : List Nat), 2 * ah ≤ 20000 ∧ t = .int .i64 ((2 * ah : Nat) : Int) ∧ Hid (FaI xs ys m (2 * ah) o) ∧ Ow wr B (.slice (some ⟨B, 0, none⟩) m m) o ∧ Ext w wr) (fun t _ => nx - (intOf t).toNat)
      case atStart => exact ⟨0, _, by decide, rfl, hS0, ho0, hE0⟩
      case round =>
        clear hS0 ho0 hE0
        obtain ⟨ah, o, hah, rfl, HO, hown, hE⟩ := hrel
        obtain ⟨a, ha⟩ : ∃ a, 2 * ah = a := ⟨_, rfl⟩
        rw [ha] at hah HO ⊢
        have hahi : (a : Int) / 2 = (ah : Int) := by omega
        have HA := Lib.hid ha
        by_cases hlt : a < nx
        · obtain ⟨ad, cx, hvx, hcx, hbx, hcellx⟩ := hx.opened HL.out.1 (by omega)
          injection hvx with w1 w2 w3
          subst w1 w3
          clear w2 hcellx hbx hcx
          obtain ⟨e, he⟩ : ∃ e, min (a + pc) nx = e := ⟨_, rfl⟩
          obtain ⟨p, hpe⟩ : ∃ p, e - a = p := ⟨_, rfl⟩
          obtain ⟨r, hrn⟩ : ∃ r, m - ah = r := ⟨_, rfl⟩
          have hmn1 : (if (nx : Int) < (a : Int) + (pc : Int) then (nx : Int) else (a : Int) + (pc : Int)) = (e : Int) := by split <;> omega
          have hmn2 : min ((a : Int) + (pc : Int)) (nx : Int) = (e : Int) := by omega
          have hmn3 : (if nx < a + pc then (nx : Int) else (a : Int) + (pc : Int)) = (e : Int) := by split <;> omega
          have f1 : a < e := by omega
          have f2 : (a : Int) < (e : Int) := by omega
          have f3 : e ≤ ca := by omega
          have f4 : (e : Int) ≤ (ca : Int) := by omega
          have f5 : (a : Int) ≤ (e : Int) := by omega
          have f6 : ¬ (e = a) := by omega
          have f7 : (0 : Int) ≤ (a : Int) := by omega
          have f8 : ah < m := by omega
          have f9 : (ah : Int) < (m : Int) := by omega
          have f10 : (ah : Int) ≤ (m : Int) := by omega
          have f11 : ¬ (m = ah) := by omega
          have f12 : e ≤ nx := by omega
          have f13 : (0 : Int) ≤ (e : Int) := by omega
          have f14 : (e : Int) ≤ (nx : Int) := by omega
          have f16 : ah + r = m := by omega
          have f17 : (0 : Int) ≤ (ah : Int) := by omega
          have f18 : p ≤ 1000 := by omega
          have hm6 : m ≤ 1000000 := by omega
          have hwa : IntKind.i64.wrap (ah : Int) = (ah : Int) := IntWalk.i64_in _ (by omega)
          have hwa2 : IntKind.i64.wrap ((a : Int) / 2) = (ah : Int) := by rw [hahi]; exact hwa
          have hta2 : (a : Int).tdiv 2 = (ah : Int) := by rw [Int.tdiv_eq_ediv_of_nonneg (by omega)]; exact hahi
          obtain ⟨P, hP⟩ : ∃ P, (xs.take e).drop a = P := ⟨_, rfl⟩
          have hxp : U wr.drew (.slice (some (ad.add a)) p p) P := by
            rw [← hP]
            exact (((hx.below hE).take f12 (Nat.le_refl e)).drop_ (Nat.le_of_lt f1) hpe (Nat.le_refl _)).below (Ext.refl wr).drew
          have hyd : U wr.drew (.slice A2 ny cb) ys := (hy.below hE).below (Ext.refl wr).drew
          have hgD : Gl wr.drew := (hg.ext hE).ext (Ext.refl wr).drew
          have hlp : P.length = p := by rw [← hP, List.length_drop, List.length_take, HL.out.1]; omega
          obtain ⟨nc, hnc⟩ : ∃ nc, (cvs P ys).length = nc := ⟨_, rfl⟩
          have hncb : (cvs P ys).length ≤ 100000 := by have := cvs_len_le P ys; rw [hlp, HL.out.2] at this; omega
          have hC := Lib.hid (conv_M wr.drew hgD (some (ad.add a)) A2 p ny p cb P ys nc hxp hyd (by omega) (by omega) hnc)
          have hCa := Lib.hid (fun W v h => carry_calls W v (cvs P ys) h (cvs_ltM P ys hxp.lim hyd.lim (by omega)) hncb)
          obtain ⟨N, hN⟩ : ∃ N, val P * val ys = N := ⟨_, rfl⟩
          have hcv := cval_cvs P ys
          rw [hN] at hcv
          rw [hcv] at hCa
          have hNb : N < 4294967296 ^ (p + ny) := by
            have := lprod_lt hxp.lim hyd.lim
            rw [hN, hlp, HL.out.2] at this
            exact this
          have hNl := len_le_of_lt hNb
          obtain ⟨mw, hmw⟩ : ∃ mw, ((limbs N).length + 1) / 2 = mw := ⟨_, rfl⟩
          have hPk := Lib.hid (fun W v h => pack_calls W v (limbs N) h (by omega) mw hmw)
          have hwl := Lib.hid (packL_lt (limbs N) (limbs_lt N))
          have hwv : Hid (wal (packL (limbs N)) = N) := by rw [Hid, wal_packL, val_limbs]
          have hwn : Hid ((packL (limbs N)).length ≤ r) := by rw [Hid, packL_len, hmw]; omega
          have hcut := val_cut (xs.take e) a (by rw [List.length_take, HL.out.1]; omega)
          rw [List.take_take, Nat.min_eq_left (by omega), hP] at hcut
          have hHC := Lib.hid hcut
          have hTE : Hid (xs.take (a + pc) = xs.take e) := by
            rcases Nat.le_total (a + pc) nx with h | h
            · rw [Hid, ← he, Nat.min_eq_left h]
            · rw [Hid, ← he, Nat.min_eq_right h, List.take_of_length_le (by rw [HL.out.1]; exact h), List.take_of_length_le (by rw [HL.out.1]; exact Nat.le_refl _)]
          have hprod : Hid (val (xs.take e) * val ys < BB ^ m) := by
            have h1 := lprod_lt (as_ := xs.take e) (bs := ys) (fun x h => hlimx.out x (List.mem_of_mem_take h)) hlimy.out
            rw [Hid, bb_pow]
            refine Nat.lt_of_lt_of_le h1 (Nat.pow_le_pow_right (by decide) ?_)
            rw [List.length_take, HL.out.1, HL.out.2]; omega
          have hNN := Lib.hid hN
          have hownD : Ow wr.drew B (.slice (some ⟨B, 0, none⟩) m m) o := hown
          have hstep : Hid (a + pc = 2 * (ah + ph)) := by have := HPP.out; rw [Hid]; omega
          have hstep2 : a + pc ≤ 20000 := by omega
          clear hxp hyd hcut he hown hx hy hlp hP hN hcv hNb hNl hmw hnc hncb hgD ha
          go_wp2_with (fail)
          go_region_held3 (fun X => True)
            (first
              | exact trivial)
            (first
              | (go_at_call 35; ((with_reducible refine hC.out.mono ?_); rintro e3 w3 ⟨A3, c3, rfl, hz3, hB3⟩))
              | (go_at_call 24; ((with_reducible refine (hCa.out _ _ hz3).mono ?_); rintro e4 w4 ⟨⟨u4, rfl, hu4⟩, hB4⟩; have hu5 : U w4 u4 (limbs N) := hu4))
              | (go_at_call 39; ((with_reducible refine (hPk.out _ _ hu5).mono ?_); rintro e5 w5 ⟨rfl, ho5, hB5⟩; have hownE := ((hownD.ext hB3).ext hB4).ext hB5; have hg4 := hownD.block.2; have hs3 := hB3.size; have hs4 := hB4.size; have hV5 := ho5.toV hwl.out B (by omega)))
              | (go_at_call 46; ((with_reducible refine (addTo_calls w5 B B m m ah r r o _ _ hownE HO.out.lt (Nat.le_of_eq f16) (Nat.le_refl _) hm6 hV5 hwn.out).mono ?_); rintro e6 w6 ⟨⟨o6, cy6, rfl, hA6, ho6⟩, hB6⟩)))
          have hval : wal o + BB ^ ah * wal (packL (limbs N)) = val (xs.take e) * val ys := by
            rw [HO.out.val, hwv.out, bb_pow, HA.out, hHC.out, Nat.add_mul, Nat.mul_assoc, hNN.out]
          have hv6 := hA6.done f16 (by rw [hval]; exact hprod.out)
          rw [hval] at hv6
          have HST : Hid (FaI xs ys m (2 * (ah + ph)) o6) := ⟨hA6.len, hA6.lt, by rw [← hstep.out, hTE.out]; exact hv6⟩
          have hE6 : Ext w w6 := (((hE.drew.below hB3).below hB4).below hB5).but hB6 (by rw [HBS.out]; exact Nat.le_refl _)
          clear hv6 hA6 hB6 hB5 hB4 hB3 hval hC hCa hPk hV5 hownE ho5 hu4 hz3 hHC hTE hprod hownD HO hwl hwv hwn hNN
          go_wp2
          go_roundw
          case rel => exact ⟨ah + ph, _, by rw [← hstep.out]; exact hstep2, by rw [← hstep.out]; go_num, HST, ho6, hE6⟩
          case measure => simp [intOf]; omega
        · have hta : xs.take a = xs := List.take_of_length_le (by rw [HL.out.1]; omega)
          have hvv : Hid (wal o = val xs * val ys) := by rw [Hid, HO.out.val, hta]
          have hV := hown.toV HO.out.lt (B + 1) (by omega)
          have hol := HO.out.len
          clear hta HO hown
          go_wp2_with (fail)
          refine (unpack_calls _ _ _ o hV (by omega)).mono ?_
          rintro e5 w5 ⟨⟨u, rfl, hu⟩, hB⟩
          rw [hvv.out] at hu
          replace hE := hE.below hB
          have HF : Hid (∃ u', Ending.returned u = .returned u' ∧ Un w5 u' (val xs * val ys)) := ⟨_, rfl, hu⟩
          clear hB hu hvv
          go_wp2
          go_ret
          exact ⟨HF.out, hE⟩
theorem fast_calls (w : World) (hg : Gl w) (va vb : Value) (xs ys : List Nat) (ha : U w va xs) (hb : U w vb ys) (hla : xs.length ≤ 1000) (hlb : ys.length ≤ 1000) :
    Calls Tryd.prog 19 #[va, vb] w fun e w' => (∃ u, e = .returned u ∧ Un w' u (val xs * val ys)) ∧ Ext w w' := by
  by_cases hlt : xs.length < ys.length
  · have := fast_core true w hg vb va ys xs _ _ hb ha rfl rfl (by omega) (fun _ => hlt) hlb
    rw [Nat.mul_comm (val ys)] at this
    exact this
  · exact fast_core false w hg va vb xs ys _ _ ha hb rfl rfl (by omega) (fun h => by cases h) hla
end Go.Proofs.YtkmejhkdmnjbeaaDoor
/- Products by whichever way; powers. -/
namespace Go.Proofs.YtkmejhkdmnjbeaaDoor
open Go.RowKit
set_option linter.unusedVariables false
set_option maxHeartbeats 400000

theorem mul_calls' (w : World) (va vb : Value) (xs ys : List Nat) (ha : U w va xs) (hb : U w vb ys) (hla : xs.length ≤ 1000) (hlb : ys.length ≤ 1000) (h398 : min xs.length ys.length ≤ 398) :
    Calls Tryd.prog 20 #[va, vb] w fun e w' => (∃ u, e = .returned u ∧ Un w' u (val xs * val ys)) ∧ Ext w w' := by
  obtain ⟨A, ca, rfl, hca⟩ := ha.shape
  obtain ⟨A2, cb, rfl, hcb⟩ := hb.shape
  have hSc := Lib.hid (school_calls w _ _ xs ys ha hb hla hlb)
  have hKa := Lib.hid (karat_calls w _ _ xs ys ha hb hla hlb)
  have hTo := Lib.hid (toom_calls w _ _ xs ys ha hb hla hlb h398)
  generalize xs.length = lx at *
  generalize ys.length = ly at *
  obtain ⟨m, hm⟩ : ∃ m, min lx ly = m := ⟨_, rfl⟩
  have hm1 : (if (ly : Int) < (lx : Int) then (ly : Int) else (lx : Int)) = (m : Int) := by split <;> omega
  have hm3 : (if ly < lx then (ly : Int) else (lx : Int)) = (m : Int) := by split <;> omega
  obtain ⟨q, hq⟩ : ∃ q, (m + 1) / 2 = q := ⟨_, rfl⟩
  have hqi : ((m : Int) + 1) / 2 = (q : Int) := by omega
  have hq200 : q < 200 := by omega
  clear ha hb hm hq h398
  by_cases h40 : q < 40
  · have hd : decide ((q : Int) < 40) = true := by rw [decide_eq_true_iff]; omega
    go_enter Tryd.func20, Tryd.ntmps20
    go_wp2_with (fail)
    refine hSc.out.mono ?_
    rintro e w1 ⟨⟨u, rfl, hu⟩, hB⟩
    have HF : Hid (∃ u', Ending.returned u = .returned u' ∧ Un w1 u' (val xs * val ys)) := ⟨_, rfl, hu⟩
    clear hu
    go_wp2
    go_ret
    exact ⟨HF.out, hB⟩
  · have hd : decide ((q : Int) < 40) = false := by rw [decide_eq_false_iff_not]; omega
    have hd2 : decide ((q : Int) < 200) = true := by rw [decide_eq_true_iff]; omega
    go_enter Tryd.func20, Tryd.ntmps20
    go_wp2_with (fail)
    refine hKa.out.mono ?_
    rintro e w1 ⟨⟨u, rfl, hu⟩, hB⟩
    have HF : Hid (∃ u', Ending.returned u = .returned u' ∧ Un w1 u' (val xs * val ys)) := ⟨_, rfl, hu⟩
    clear hu
    go_wp2
    go_ret
    exact ⟨HF.out, hB⟩

/-- A number of at most so many limbs. -/
theorem len_of {n k : Nat} (h : n < LB ^ k) : (limbs n).length ≤ k := len_le_of_lt h
theorem U.asUn {w : World} {v : Value} {n : Nat} (h : Un w v n) : U w v (limbs n) := h
theorem un_lt {n : Nat} : n < LB ^ (limbs n).length := by
  have := val_lt (limbs n) (limbs_lt n)
  rwa [val_limbs] at this

/-- What a product asks for, and what it is. -/
def Pd (f : Nat) : Prop := ∀ (w : World) (va vb : Value) (n m k : Nat), Gl w → Un w va n → Un w vb m → (limbs n).length ≤ 398 → (limbs m).length ≤ 398 → n * m = k → Calls Tryd.prog f #[va, vb] w fun e w' => ∃ u, e = .returned u ∧ Un w' u k ∧ Ext w w'
theorem school_B : Pd 16 := fun w va vb n m k _ ha hb hn hm hk => by
  refine (school_calls w va vb _ _ ha hb (by omega) (by omega)).mono ?_
  rw [val_limbs, val_limbs, hk]
  rintro e w' ⟨⟨u, h1, h2⟩, h3⟩
  exact ⟨u, h1, h2, h3⟩
theorem karat_B : Pd 17 := fun w va vb n m k _ ha hb hn hm hk => by
  refine (karat_calls w va vb _ _ ha hb (by omega) (by omega)).mono ?_
  rw [val_limbs, val_limbs, hk]
  rintro e w' ⟨⟨u, h1, h2⟩, h3⟩
  exact ⟨u, h1, h2, h3⟩
theorem toom_B : Pd 18 := fun w va vb n m k _ ha hb hn hm hk => by
  refine (toom_calls w va vb _ _ ha hb (by omega) (by omega) (by omega)).mono ?_
  rw [val_limbs, val_limbs, hk]
  rintro e w' ⟨⟨u, h1, h2⟩, h3⟩
  exact ⟨u, h1, h2, h3⟩
theorem fast_B : Pd 19 := fun w va vb n m k hg ha hb hn hm hk => by
  refine (fast_calls w hg va vb _ _ ha hb (by omega) (by omega)).mono ?_
  rw [val_limbs, val_limbs, hk]
  rintro e w' ⟨⟨u, h1, h2⟩, h3⟩
  exact ⟨u, h1, h2, h3⟩
theorem mul_B : Pd 20 := fun w va vb n m k _ ha hb hn hm hk => by
  refine (mul_calls' w va vb _ _ ha hb (by omega) (by omega) (by omega)).mono ?_
  rw [val_limbs, val_limbs, hk]
  rintro e w' ⟨⟨u, h1, h2⟩, h3⟩
  exact ⟨u, h1, h2, h3⟩

/-- By one of five ways. -/
theorem by_B (x : Nat) (hx : x < 256) (w : World) (va vb : Value) (n m k : Nat) (hg : Gl w) (ha : Un w va n) (hb : Un w vb m) (hn : (limbs n).length ≤ 398) (hm : (limbs m).length ≤ 398) (hk : n * m = k) :
    Calls Tryd.prog 26 #[.int .u8 (x : Nat), va, vb] w fun e w' => ∃ u, e = .returned u ∧ Un w' u k ∧ Ext w w' := by
  have h0 := Lib.hid (school_B w va vb n m k hg ha hb hn hm hk)
  have h1 := Lib.hid (karat_B w va vb n m k hg ha hb hn hm hk)
  have h2 := Lib.hid (toom_B w va vb n m k hg ha hb hn hm hk)
  have h3 := Lib.hid (fast_B w va vb n m k hg ha hb hn hm hk)
  have h4 := Lib.hid (mul_B w va vb n m k hg ha hb hn hm hk)
  obtain ⟨r, hr⟩ : ∃ r, x % 5 = r := ⟨_, rfl⟩
  have hri : (x : Int) % 5 = (r : Int) := by omega
  have hrt : (x : Int).tmod 5 = (r : Int) := by rw [Int.tmod_eq_emod_of_nonneg (by omega)]; exact hri
  clear ha hb hn hm hk
  rcases (show r = 0 ∨ r = 1 ∨ r = 2 ∨ r = 3 ∨ r = 4 by omega) with rfl | rfl | rfl | rfl | rfl
  all_goals
    clear hr hx
    go_enter Tryd.func26, Tryd.ntmps26
    go_wp2_with (fail)
    first
      | refine h0.out.mono ?_
      | refine h1.out.mono ?_
      | refine h2.out.mono ?_
      | refine h3.out.mono ?_
      | refine h4.out.mono ?_
    rintro e w1 ⟨u, rfl, hu, hB⟩
    have HF : Hid (∃ u', Ending.returned u = .returned u' ∧ Un w1 u' k ∧ Ext w w1) := ⟨_, rfl, hu, hB⟩
    clear hu hB h0 h1 h2 h3 h4
    go_wp2
    go_ret
    exact HF.out
theorem made_N (w : World) (v : Value) (xs : List Nat) (h : U w v xs) (n : Nat) (hn : cutN xs 120 = n) :
    Calls Tryd.prog 13 #[v] w fun e w' => ∃ u, e = .returned u ∧ Un w' u n ∧ Ext w w' := by
  have h0 := Lib.hid (made_B w v xs 120 h (by decide) (by decide) n hn)
  clear h
  go_enter Tryd.func13, Tryd.ntmps13
  go_wp2_with (fail)
  refine h0.out.mono ?_
  rintro e w1 ⟨u, rfl, hu, hB⟩
  have HF : Hid (∃ u', Ending.returned u = .returned u' ∧ Un w1 u' n ∧ Ext w w1) := ⟨_, rfl, hu, hB⟩
  clear hu hB h0
  go_wp2
  go_ret
  exact HF.out
end Go.Proofs.YtkmejhkdmnjbeaaDoor
/- Powers; live questions. -/
namespace Go.Proofs.YtkmejhkdmnjbeaaDoor
open Go.RowKit
set_option linter.unusedVariables false
set_option maxHeartbeats 400000

theorem pow_limbs {a q e n : Nat} (ha : a < LB ^ q) (he : e ≤ n) : (limbs (a ^ e)).length ≤ q * n + 1 := by
  refine len_of ?_
  have h1 : a ^ e ≤ (LB ^ q) ^ e := Nat.pow_le_pow_left (Nat.le_of_lt ha) e
  rw [← Nat.pow_mul] at h1
  have h2 : LB ^ (q * e) ≤ LB ^ (q * n) := Nat.pow_le_pow_right (by decide) (Nat.mul_le_mul_left _ he)
  have h3 : LB ^ (q * n + 1) = LB ^ (q * n) * LB := Nat.pow_succ _ _
  have h4 : 0 < LB ^ (q * n) := Nat.pow_pos (by decide)
  rw [h3]
  unfold LB at *
  omega
theorem i64_and1 (v : Nat) (h : v < 9223372036854775808) : bits .and .i64 (v : Int) 1 = ((v % 2 : Nat) : Int) := by
  have e1 : (BitVec.ofInt 64 1).toNat = 2 ^ 1 - 1 := by decide
  have key : (BitVec.ofInt 64 (v : Int) &&& BitVec.ofInt 64 1).toNat = v % 2 := by
    rw [BitVec.toNat_and, e1, Nat.and_two_pow_sub_one_eq_mod, BitVec.toNat_ofInt]; omega
  show IntKind.i64.wrap ((BitVec.ofInt 64 (v : Int) &&& BitVec.ofInt 64 1).toNat : Nat) = _
  rw [key, IntKind.wrap_i64]
  omega
theorem limbs_small (x : Nat) (h0 : x ≠ 0) (h : x < 4294967296) : limbs x = [x] := by
  rw [limbs_pos h0, Nat.mod_eq_of_lt h, Nat.div_eq_of_lt h, limbs_zero]
theorem pow_half (a n i : Nat) : a ^ (n / 2 ^ i) = a ^ (n / 2 ^ (i + 1)) * a ^ (n / 2 ^ (i + 1)) * (if n / 2 ^ i % 2 = 1 then a else 1) := by
  have e : n / 2 ^ (i + 1) = n / 2 ^ i / 2 := by rw [Nat.pow_succ, Nat.div_div_eq_div_mul]
  rw [e, ← Nat.pow_add]
  split
  · rw [← Nat.pow_succ]; congr 1; omega
  · rw [Nat.mul_one]; congr 1; omega

set_option maxRecDepth 100000 in
set_option maxHeartbeats 4000000 in
theorem pow_B (w : World) (hg : Gl w) (va : Value) (a q n : Nat) (hu : Un w va a) (ha : a < LB ^ q) (hq : q * n ≤ 380) (hq2 : q ≤ 390) (hn : n ≤ 1000) (k : Nat) (hk : a ^ n = k) :
    Calls Tryd.prog 22 #[va, .int .i64 (n : Nat)] w fun e w' => ∃ u, e = .returned u ∧ Un w' u k ∧ Ext w w' := by
  subst hk
  have hal : (limbs a).length ≤ 398 := Nat.le_trans (len_of ha) (by omega)
  have HAL : Hid (∀ x, x = a → (limbs x).length ≤ 398) := fun x e => by rw [e]; exact hal
  have hPl := Lib.hid (fun e (he : e ≤ n) => Nat.le_trans (pow_limbs (e := e) ha he) (show q * n + 1 ≤ 398 by omega))
  have hHF := Lib.hid (pow_half a n)
  have hlen := Lib.hid (fun W => len_calls W n (by omega))
  have hbl : n < 2 ^ blen n := lt_pow_blen n
  have hb20 : blen n ≤ 20 := blen_le_of_lt (Nat.lt_of_le_of_lt hn (by decide))
  obtain ⟨L, hL⟩ : ∃ L, blen n = L := ⟨_, rfl⟩
  rw [hL] at hlen hbl hb20
  have hz0 : Hid (n / 2 ^ L = 0) := Nat.div_eq_of_lt hbl
  obtain ⟨A, ca, rfl, hca⟩ := U.shape (U.asUn hu)
  have hmax1 : (if (n : Int) < 0 then (0 : Int) else (n : Int)) = (n : Int) := by split <;> omega
  have hmax2 : max (n : Int) 0 = (n : Int) := by omega
  have hmax3 : (if (0 : Int) < (n : Int) then (n : Int) else 0) = (n : Int) := by split <;> omega
  have hmax4 : (if 0 < n then (n : Int) else 0) = (n : Int) := by split <;> omega
  have hnw : IntKind.u64.wrap (n : Int) = (n : Int) := by rw [IntKind.wrap_u64]; omega
  have hnm : (n : Int) % 18446744073709551616 = (n : Int) := by omega
  have hE0 := (Ext.refl w).alloc (.cells #[.int .u32 1] 35)
  have hone : Un (w.alloc (.cells #[.int .u32 1] 35)) (.slice (some ⟨w.heap.size, 0, none⟩) 1 1) 1 := by
    have := U_lit w [1] (by simp) (by simp)
    rw [Un, limbs_small 1 (by decide) (by decide)]
    exact this
  clear hL hbl ha
  go_enter Tryd.func22, Tryd.ntmps22
  go_wp2_with (fail)
  refine (hlen.out _).mono ?_
  rintro e w1 ⟨rfl, rfl⟩
  generalize (w.alloc (.cells #[.int .u32 1] 35)) = w1 at *
  have hu1 : Un w1 (.slice A (limbs a).length ca) a := U.below (U.asUn hu) hE0
  have hg1 : Gl w1 := hg.ext hE0
  generalize (limbs a).length = la at *
  clear hu hg
  go_wp2
  go_loopw [6, 5] (fun t s wr => ∃ (j : Nat), j ≤ L ∧ t = .int .i64 ((j : Int) - 1) ∧ Un wr s (a ^ (n / 2 ^ j)) ∧ Un wr (.slice A la ca) a ∧ Gl wr ∧ Ext w wr) (fun t _ _ => ((intOf t) + 1).toNat)
  case atStart => exact ⟨L, Nat.le_refl _, rfl, by rw [hz0.out, Nat.pow_zero]; exact hone, hu1, hg1, hE0⟩
  case round =>
    clear hone hu1 hg1 hE0
    obtain ⟨j, hj, rfl, hz, hua, hg, hE⟩ := hrel
    rcases j with _ | i
    · have hd : decide ((0 : Int) ≤ ((0 : Nat) : Int) - 1) = false := by decide
      obtain ⟨A2, c2, rfl, hcc⟩ := U.shape (U.asUn hz)
      have HF : Hid (∃ u', Ending.returned (.slice A2 (limbs (a ^ (n / 2 ^ 0))).length c2) = .returned u' ∧ Un wr u' (a ^ n) ∧ Ext w wr) := ⟨_, rfl, by rw [Nat.pow_zero, Nat.div_one] at hz ⊢; exact hz, hE⟩
      clear hz hE
      go_wp2
      go_ret
      exact HF.out
    · have hi1 : ((i + 1 : Nat) : Int) - 1 = (i : Int) := by omega
      rw [hi1]
      obtain ⟨A2, c2, rfl, hcc⟩ := U.shape (U.asUn hz)
      have hle : n / 2 ^ (i + 1) ≤ n := Nat.div_le_self _ _
      have hle2 : n / 2 ^ i ≤ n := Nat.div_le_self _ _
      obtain ⟨v, hv⟩ : ∃ v, n / 2 ^ i = v := ⟨_, rfl⟩
      obtain ⟨p, hp⟩ : ∃ p, n / 2 ^ (i + 1) = p := ⟨_, rfl⟩
      have hhf := hHF.out i
      rw [hv, hp] at hhf
      rw [hp] at hz hle ⊢
      rw [hv] at hle2
      have hvi : (n : Int) / 2 ^ i = (v : Int) := by rw [← hv, Int.natCast_ediv, Int.natCast_pow]; rfl
      have hand := i64_and1 v (by omega)
      have hpp : (limbs (a ^ p * a ^ p)).length ≤ 398 := by
        rw [← Nat.pow_add]
        refine hPl.out _ ?_
        have : n / 2 ^ (i + 1) = n / 2 ^ i / 2 := by rw [Nat.pow_succ, Nat.div_div_eq_div_mul]
        rw [hp, hv] at this
        omega
      have hM := Lib.hid (mul_B wr _ _ (a ^ p) (a ^ p) _ hg hz hz (hPl.out p hle) (hPl.out p hle) rfl)
      have HV := Lib.hid hv
      generalize (limbs (a ^ p)).length = lz at *
      clear hz hp hv
      by_cases hb : v % 2 = 1
      · rw [hb] at hand
        rw [if_pos hb] at hhf
        have hhf2 := Lib.hid hhf
        have hbe : (bits .and .i64 (v : Int) 1 == 1) = true := by rw [hand]; rfl
        clear hb hhf hand
        go_wp2_with (fail)
        refine hM.out.mono ?_
        rintro e w2 ⟨u, rfl, hu2, hB⟩
        replace hua := U.below (U.asUn hua) hB
        replace hg := hg.ext hB
        replace hE := hE.below hB
        obtain ⟨A3, c3, rfl, hc3⟩ := U.shape (U.asUn hu2)
        have hM2 := Lib.hid (mul_B w2 _ _ (a ^ p * a ^ p) a _ hg hu2 hua hpp (HAL.out a rfl) rfl)
        clear hM hB hu2
        generalize (limbs (a ^ p * a ^ p)).length = lz2 at *
        go_wp2_with (fail)
        refine hM2.out.mono ?_
        rintro e w3 ⟨u, rfl, hu3, hB⟩
        replace hua := U.below hua hB
        replace hg := hg.ext hB
        replace hE := hE.below hB
        rw [← hhf2.out] at hu3
        obtain ⟨A4, c4, rfl, hc4⟩ := U.shape (U.asUn hu3)
        have HU : Hid (Un w3 (.slice A4 (limbs (a ^ v)).length c4) (a ^ (n / 2 ^ i))) := by rw [Hid, HV.out]; exact hu3
        generalize (limbs (a ^ v)).length = lz4 at *
        clear hM2 hB hu3 hhf2
        go_wp2
        go_roundw
        case rel => exact ⟨i, by omega, rfl, HU.out, hua, hg, hE⟩
        case measure => simp [intOf]
      · have hb0 : v % 2 = 0 := by omega
        rw [hb0] at hand
        rw [if_neg hb, Nat.mul_one] at hhf
        have hhf2 := Lib.hid hhf
        have hbe : (bits .and .i64 (v : Int) 1 == 1) = false := by rw [hand]; rfl
        clear hb hb0 hhf hand
        go_wp2_with (fail)
        refine hM.out.mono ?_
        rintro e w2 ⟨u, rfl, hu2, hB⟩
        replace hua := U.below (U.asUn hua) hB
        replace hg := hg.ext hB
        replace hE := hE.below hB
        rw [← hhf2.out] at hu2
        obtain ⟨A3, c3, rfl, hc3⟩ := U.shape (U.asUn hu2)
        have HU : Hid (Un w2 (.slice A3 (limbs (a ^ v)).length c3) (a ^ (n / 2 ^ i))) := by rw [Hid, HV.out]; exact hu2
        generalize (limbs (a ^ v)).length = lz4 at *
        clear hM hB hu2 hhf2
        go_wp2
        go_roundw
        case rel => exact ⟨i, by omega, rfl, HU.out, hua, hg, hE⟩
        case measure => simp [intOf]
end Go.Proofs.YtkmejhkdmnjbeaaDoor
/- Live questions, whose answers are fixed. -/
namespace Go.Proofs.YtkmejhkdmnjbeaaDoor
open Go.RowKit
set_option linter.unusedVariables false
set_option maxHeartbeats 400000

theorem Un_lit1 (w : World) (N : Nat) (hN : w.heap.size = N) (x : Nat) (h0 : x ≠ 0) (h : x < 4294967296) : Un (w.alloc (.cells #[.int .u32 (x : Nat)] 35)) (.slice (some ⟨N, 0, none⟩) 1 1) x := by
  subst hN
  have := U_lit w [x] (by simpa using h) (by simp)
  rw [Un, limbs_small x h0 h]
  exact this
theorem limbs_two (x y : Nat) (h0 : y ≠ 0) (hx : x < 4294967296) (hy : y < 4294967296) (n : Nat) (hn : x + 4294967296 * y = n) : limbs n = [x, y] := by
  rw [limbs_pos (by omega), show n % 4294967296 = x by omega, show n / 4294967296 = y by omega, limbs_small y h0 hy]
theorem Un_lit2 (w : World) (N : Nat) (hN : w.heap.size = N) (x y : Nat) (h0 : y ≠ 0) (hx : x < 4294967296) (hy : y < 4294967296) (n : Nat) (hn : x + 4294967296 * y = n) : Un (w.alloc (.cells #[.int .u32 (x : Nat), .int .u32 (y : Nat)] 35)) (.slice (some ⟨N, 0, none⟩) 2 2) n := by
  subst hN
  have := U_lit w [x, y] (by simp; exact ⟨hx, hy⟩) (by simp)
  rw [Un, limbs_two x y h0 hx hy n hn]
  exact this
theorem same_N (w : World) (v u : Value) (n m : Nat) (h : Un w v n) (g : Un w u m) (b : Bool) (hb : decide (n = m) = b) :
    Calls Tryd.prog 15 #[v, u] w fun e w' => e = .returned (.bool b) ∧ Ext w w' := by
  refine same_B w v u _ _ h g b ?_
  rw [← hb]
  refine decide_eq_decide.2 ⟨fun e => ?_, fun e => by rw [e]⟩
  have := congrArg val e
  rwa [val_limbs, val_limbs] at this
theorem len1 {x : Nat} (h : x < 4294967296) : (limbs x).length ≤ 398 := Nat.le_trans (len_of (k := 1) (by unfold LB; omega)) (by decide)
theorem carry_B (w : World) (v : Value) (cs : List Nat) (hu : U3 w v cs) (hcs : ∀ x ∈ cs, x < 79228162514264337593543950336) (hl : cs.length ≤ 100000) (k : Nat) (hk : cval cs = k) :
    Calls Tryd.prog 24 #[v] w fun e w' => ∃ u, e = .returned u ∧ Un w' u k ∧ Ext w w' := by
  refine (carry_calls w v cs hu hcs hl).mono ?_
  rw [hk]
  rintro e w' ⟨⟨u, h1, h2⟩, h3⟩
  exact ⟨u, h1, h2, h3⟩

set_option maxRecDepth 100000 in
set_option maxHeartbeats 8000000 in
theorem mhead_calls (w : World) (hg : Gl w) : Calls Tryd.prog 12 #[] w fun e w' => e = .returned (.bool true) ∧ Ext w w' := by
  have hM0 : Un (w.alloc (.cells #[.int .u32 4294967295] 35)) (.slice (some ⟨w.heap.size, 0, none⟩) 1 1) 4294967295 := Un_lit1 w _ rfl 4294967295 (by decide) (by decide)
  have hE1 := (Ext.refl w).alloc (.cells #[.int .u32 4294967295] 35)
  have hW0 : Un ((w.alloc (.cells #[.int .u32 4294967295] 35)).alloc (.cells #[.int .u32 1, .int .u32 4294967294] 35)) (.slice (some ⟨(w.alloc (.cells #[.int .u32 4294967295] 35)).heap.size, 0, none⟩) 2 2) 18446744065119617025 := Un_lit2 (w.alloc (.cells #[.int .u32 4294967295] 35)) _ rfl 1 4294967294 (by decide) (by decide) (by decide) 18446744065119617025 (by decide)
  have hE2 := hE1.alloc (.cells #[.int .u32 1, .int .u32 4294967294] 35)
  have hM1 : Un ((w.alloc (.cells #[.int .u32 4294967295] 35)).alloc (.cells #[.int .u32 1, .int .u32 4294967294] 35)) (.slice (some ⟨w.heap.size, 0, none⟩) 1 1) 4294967295 := U.alloc (U.asUn hM0) _
  have hs1 : (w.alloc (.cells #[.int .u32 4294967295] 35)).heap.size = w.heap.size + 1 := by simp
  rw [hs1] at hW0
  have hs2 : ((w.alloc (.cells #[.int .u32 4294967295] 35)).alloc (.cells #[.int .u32 1, .int .u32 4294967294] 35)).heap.size = w.heap.size + 1 + 1 := by simp
  have hC0 := U3_lit2 ((w.alloc (.cells #[.int .u32 4294967295] 35)).alloc (.cells #[.int .u32 1, .int .u32 4294967294] 35)) _ hs2 [4294967301, 7] (by decide)
  have hfl : L32 (fl [4294967301, 7]) = [.int .u32 5, .int .u32 1, .int .u32 0, .int .u32 7, .int .u32 0, .int .u32 0] := rfl
  rw [hfl] at hC0
  have hE3 := hE2.alloc (.cells #[.int .u32 5, .int .u32 1, .int .u32 0, .int .u32 7, .int .u32 0, .int .u32 0] 50)
  have hM2 := U.alloc (U.asUn hM1) (.cells #[.int .u32 5, .int .u32 1, .int .u32 0, .int .u32 7, .int .u32 0, .int .u32 0] 50)
  have hW2 := U.alloc (U.asUn hW0) (.cells #[.int .u32 5, .int .u32 1, .int .u32 0, .int .u32 7, .int .u32 0, .int .u32 0] 50)
  clear hM0 hE1 hE2 hM1 hW0 hs1 hs2 hfl
  replace hg : Gl (((w.alloc (.cells #[.int .u32 4294967295] 35)).alloc (.cells #[.int .u32 1, .int .u32 4294967294] 35)).alloc (.cells #[.int .u32 5, .int .u32 1, .int .u32 0, .int .u32 7, .int .u32 0, .int .u32 0] 50)) := hg.ext hE3
  have hC1 : U3 (((w.alloc (.cells #[.int .u32 4294967295] 35)).alloc (.cells #[.int .u32 1, .int .u32 4294967294] 35)).alloc (.cells #[.int .u32 5, .int .u32 1, .int .u32 0, .int .u32 7, .int .u32 0, .int .u32 0] 50)) (.slice (some ⟨w.heap.size + 1 + 1, 0, none⟩) 2 2) [4294967301, 7] := hC0
  have hM : Un (((w.alloc (.cells #[.int .u32 4294967295] 35)).alloc (.cells #[.int .u32 1, .int .u32 4294967294] 35)).alloc (.cells #[.int .u32 5, .int .u32 1, .int .u32 0, .int .u32 7, .int .u32 0, .int .u32 0] 50)) (.slice (some ⟨w.heap.size, 0, none⟩) 1 1) 4294967295 := hM2
  have hW : Un (((w.alloc (.cells #[.int .u32 4294967295] 35)).alloc (.cells #[.int .u32 1, .int .u32 4294967294] 35)).alloc (.cells #[.int .u32 5, .int .u32 1, .int .u32 0, .int .u32 7, .int .u32 0, .int .u32 0] 50)) (.slice (some ⟨w.heap.size + 1, 0, none⟩) 2 2) 18446744065119617025 := hW2
  have hlM : (limbs 4294967295).length ≤ 398 := len1 (by decide)
  have hP0 := Lib.hid hlM
  clear hC0 hM2 hW2 hlM
  go_enter Tryd.func12, Tryd.ntmps12
  go_wp2_with (fail)
  generalize (((w.alloc (.cells #[.int .u32 4294967295] 35)).alloc (.cells #[.int .u32 1, .int .u32 4294967294] 35)).alloc (.cells #[.int .u32 5, .int .u32 1, .int .u32 0, .int .u32 7, .int .u32 0, .int .u32 0] 50)) = w0 at *
  refine (carry_B w0 _ [4294967301, 7] hC1 (by simp) (by simp) 34359738373 (by decide)).mono ?_
  rintro e w1 ⟨uc, rfl, hC, hB⟩
  have hE := hE3.below hB
  replace hg := hg.ext hB
  replace hM := U.below (U.asUn hM) hB
  replace hW := U.below (U.asUn hW) hB
  clear hB hE3 hC1
  go_wp2_with (fail)
  refine (school_B _ _ _ 4294967295 4294967295 18446744065119617025 hg hM hM hP0.out hP0.out (by decide)).mono ?_
  rintro e w2 ⟨u, rfl, hu, hB⟩
  replace hE := hE.below hB
  replace hg := hg.ext hB
  replace hM := U.below (U.asUn hM) hB
  replace hW := U.below (U.asUn hW) hB
  replace hC := U.below (U.asUn hC) hB
  clear hB
  go_wp2_with (fail)
  refine (same_N _ _ _ 18446744065119617025 18446744065119617025 hu hW true (decide_eq_true rfl)).mono ?_
  rintro e w3 ⟨rfl, hB⟩
  replace hE := hE.below hB
  replace hg := hg.ext hB
  replace hM := U.below (U.asUn hM) hB
  replace hW := U.below (U.asUn hW) hB
  replace hC := U.below (U.asUn hC) hB
  clear hB
  go_wp2_with (fail)
  refine (karat_B _ _ _ 4294967295 4294967295 18446744065119617025 hg hM hM hP0.out hP0.out (by decide)).mono ?_
  rintro e w4 ⟨u, rfl, hu, hB⟩
  replace hE := hE.below hB
  replace hg := hg.ext hB
  replace hM := U.below (U.asUn hM) hB
  replace hW := U.below (U.asUn hW) hB
  replace hC := U.below (U.asUn hC) hB
  clear hB
  go_wp2_with (fail)
  refine (same_N _ _ _ 18446744065119617025 18446744065119617025 hu hW true (decide_eq_true rfl)).mono ?_
  rintro e w5 ⟨rfl, hB⟩
  replace hE := hE.below hB
  replace hg := hg.ext hB
  replace hM := U.below (U.asUn hM) hB
  replace hW := U.below (U.asUn hW) hB
  replace hC := U.below (U.asUn hC) hB
  clear hB
  go_wp2_with (fail)
  refine (toom_B _ _ _ 4294967295 4294967295 18446744065119617025 hg hM hM hP0.out hP0.out (by decide)).mono ?_
  rintro e w6 ⟨u, rfl, hu, hB⟩
  replace hE := hE.below hB
  replace hg := hg.ext hB
  replace hM := U.below (U.asUn hM) hB
  replace hW := U.below (U.asUn hW) hB
  replace hC := U.below (U.asUn hC) hB
  clear hB
  go_wp2_with (fail)
  refine (same_N _ _ _ 18446744065119617025 18446744065119617025 hu hW true (decide_eq_true rfl)).mono ?_
  rintro e w7 ⟨rfl, hB⟩
  replace hE := hE.below hB
  replace hg := hg.ext hB
  replace hM := U.below (U.asUn hM) hB
  replace hW := U.below (U.asUn hW) hB
  replace hC := U.below (U.asUn hC) hB
  clear hB
  go_wp2_with (fail)
  refine (fast_B _ _ _ 4294967295 4294967295 18446744065119617025 hg hM hM hP0.out hP0.out (by decide)).mono ?_
  rintro e w8 ⟨u, rfl, hu, hB⟩
  replace hE := hE.below hB
  replace hg := hg.ext hB
  replace hM := U.below (U.asUn hM) hB
  replace hW := U.below (U.asUn hW) hB
  replace hC := U.below (U.asUn hC) hB
  clear hB
  go_wp2_with (fail)
  refine (same_N _ _ _ 18446744065119617025 18446744065119617025 hu hW true (decide_eq_true rfl)).mono ?_
  rintro e w9 ⟨rfl, hB⟩
  replace hE := hE.below hB
  replace hg := hg.ext hB
  replace hM := U.below (U.asUn hM) hB
  replace hW := U.below (U.asUn hW) hB
  replace hC := U.below (U.asUn hC) hB
  clear hB
  go_wp2_with (fail)
  refine (mul_B _ _ _ 4294967295 4294967295 18446744065119617025 hg hM hM hP0.out hP0.out (by decide)).mono ?_
  rintro e w10 ⟨u, rfl, hu, hB⟩
  replace hE := hE.below hB
  replace hg := hg.ext hB
  replace hM := U.below (U.asUn hM) hB
  replace hW := U.below (U.asUn hW) hB
  replace hC := U.below (U.asUn hC) hB
  clear hB
  go_wp2_with (fail)
  refine (same_N _ _ _ 18446744065119617025 18446744065119617025 hu hW true (decide_eq_true rfl)).mono ?_
  rintro e w11 ⟨rfl, hB⟩
  replace hE := hE.below hB
  replace hg := hg.ext hB
  replace hM := U.below (U.asUn hM) hB
  replace hC := U.below (U.asUn hC) hB
  clear hB
  have h3 : Un (w11.alloc (.cells #[.int .u32 3] 35)) (.slice (some ⟨w11.heap.size, 0, none⟩) 1 1) 3 := Un_lit1 w11 _ rfl 3 (by decide) (by decide)
  have hB := (Ext.refl w11).alloc (.cells #[.int .u32 3] 35)
  replace hE := hE.below hB
  replace hg := hg.ext hB
  replace hM := U.below (U.asUn hM) hB
  replace hC := U.below (U.asUn hC) hB
  clear hB
  go_wp2_with (fail)
  refine (pow_B _ hg _ 3 1 5 h3 (by decide) (by decide) (by decide) (by decide) 243 (by decide)).mono ?_
  rintro e w12 ⟨u, rfl, hu, hB⟩
  replace hE := hE.below hB
  replace hg := hg.ext hB
  replace hM := U.below (U.asUn hM) hB
  replace hC := U.below (U.asUn hC) hB
  clear hB
  have h4 : Un (w12.alloc (.cells #[.int .u32 243] 35)) (.slice (some ⟨w12.heap.size, 0, none⟩) 1 1) 243 := Un_lit1 w12 _ rfl 243 (by decide) (by decide)
  have hB := (Ext.refl w12).alloc (.cells #[.int .u32 243] 35)
  replace hE := hE.below hB
  replace hg := hg.ext hB
  replace hM := U.below (U.asUn hM) hB
  replace hC := U.below (U.asUn hC) hB
  replace hu := U.below (U.asUn hu) hB
  clear hB
  go_wp2_with (fail)
  refine (same_N _ _ _ 243 243 hu h4 true (decide_eq_true rfl)).mono ?_
  rintro e w13 ⟨rfl, hB⟩
  replace hE := hE.below hB
  replace hg := hg.ext hB
  replace hM := U.below (U.asUn hM) hB
  replace hC := U.below (U.asUn hC) hB
  clear hB
  go_wp2_with (fail)
  refine (pow_B _ hg _ 0 1 0 (Un_nil _) (by decide) (by decide) (by decide) (by decide) 1 (by decide)).mono ?_
  rintro e w14 ⟨u, rfl, hu, hB⟩
  replace hE := hE.below hB
  replace hg := hg.ext hB
  replace hM := U.below (U.asUn hM) hB
  replace hC := U.below (U.asUn hC) hB
  clear hB
  have h5 : Un (w14.alloc (.cells #[.int .u32 1] 35)) (.slice (some ⟨w14.heap.size, 0, none⟩) 1 1) 1 := Un_lit1 w14 _ rfl 1 (by decide) (by decide)
  have hB := (Ext.refl w14).alloc (.cells #[.int .u32 1] 35)
  replace hE := hE.below hB
  replace hg := hg.ext hB
  replace hM := U.below (U.asUn hM) hB
  replace hC := U.below (U.asUn hC) hB
  replace hu := U.below (U.asUn hu) hB
  clear hB
  go_wp2_with (fail)
  refine (same_N _ _ _ 1 1 hu h5 true (decide_eq_true rfl)).mono ?_
  rintro e w15 ⟨rfl, hB⟩
  replace hE := hE.below hB
  replace hg := hg.ext hB
  replace hM := U.below (U.asUn hM) hB
  replace hC := U.below (U.asUn hC) hB
  clear hB
  have h6 : Un (w15.alloc (.cells #[.int .u32 5, .int .u32 8] 35)) (.slice (some ⟨w15.heap.size, 0, none⟩) 2 2) 34359738373 := Un_lit2 w15 _ rfl 5 8 (by decide) (by decide) (by decide) 34359738373 (by decide)
  have hB := (Ext.refl w15).alloc (.cells #[.int .u32 5, .int .u32 8] 35)
  replace hE := hE.below hB
  replace hg := hg.ext hB
  replace hM := U.below (U.asUn hM) hB
  replace hC := U.below (U.asUn hC) hB
  clear hB
  go_wp2_with (fail)
  refine (same_N _ _ _ 34359738373 34359738373 hC h6 true (decide_eq_true rfl)).mono ?_
  rintro e w16 ⟨rfl, hB⟩
  replace hE := hE.below hB
  replace hg := hg.ext hB
  replace hM := U.below (U.asUn hM) hB
  clear hB
  go_wp2_with (fail)
  refine (mul_B _ _ _ 0 4294967295 0 hg (Un_nil _) hM (by rw [limbs_zero]; decide) hP0.out (by decide)).mono ?_
  rintro e w17 ⟨u, rfl, hu, hB⟩
  replace hE := hE.below hB
  replace hg := hg.ext hB
  replace hM := U.below (U.asUn hM) hB
  clear hB
  obtain ⟨A9, c9, hv9, _⟩ := U.shape (U.asUn hu)
  rw [limbs_zero] at hv9
  subst hv9
  clear hu
  go_wp2_with (fail)
  refine (carry_B _ _ [] (U3.nil_ _ _ _) (by simp) (by simp) 0 rfl).mono ?_
  rintro e w18 ⟨u, rfl, hu, hB⟩
  replace hE := hE.below hB
  replace hg := hg.ext hB
  clear hB
  obtain ⟨A10, c10, hv10, _⟩ := U.shape (U.asUn hu)
  rw [limbs_zero] at hv10
  subst hv10
  clear hu hg hM hP0
  go_wp2
  go_ret
  exact ⟨rfl, hE⟩
end Go.Proofs.YtkmejhkdmnjbeaaDoor
/- The arguments of the laws of products. -/
namespace Go.Proofs.YtkmejhkdmnjbeaaDoor
open Go.ChangeShapes Go.WideShapes Go.ChangeAt Go.RowKit
set_option linter.unusedVariables false
set_option maxRecDepth 100000
set_option maxHeartbeats 400000

theorem okWide_arr' {P : Program} {k e : TypeId} {n : Nat} {W : World} (hu : P.underlying k = some (.array n e)) {r : Reach} {b0 : Nat} {v : Value} (h : Value.okWide P W r b0 k v) : ∃ xs : Array Value, v = .agg xs ∧ xs.size = P.cellsOf k := by
  simp only [Value.okWide, hu] at h
  obtain ⟨cs, h1, h2, _⟩ := h
  exact ⟨cs, h1, h2⟩
theorem trod_array2 {H : Type} {enc : TypeId × Value → H} {P : Program} {w : World} {base : Nat} {spare : Nat → Bool} {held : Bool} {t e : TypeId} {fuel : Nat} {c0 c1 : Value} {x : DataW H × List MemPlace} (ht : P.underlying t = some (.array 2 e)) (hce : P.cellsOf e = 1)
    (h : DataW.trod enc P w base spare held fuel t [c0, c1] = some x) :
    ∃ y0 y1 n, DataW.trod enc P w base spare held n e [c0] = some y0 ∧ DataW.trod enc P w base spare held n e [c1] = some y1 := by
  cases fuel with
  | zero => simp [DataW.trod] at h
  | succ n =>
    unfold DataW.trod at h
    rw [ht] at h
    have r2 : List.range 2 = [0, 1] := rfl
    simp [r2, hce] at h
    obtain ⟨_, h⟩ := h
    cases h0 : DataW.trod enc P w base spare held n e [c0] with
    | none => simp [h0] at h
    | some y0 =>
      cases h1 : DataW.trod enc P w base spare held n e [c1] with
      | none => simp [h0, h1] at h
      | some y1 => exact ⟨y0, y1, n, h0, h1⟩
theorem open_two {H : Type} {enc : TypeId × Value → H} {W : World} {base : Nat} {v : Value} {d : DataW H} {ps : List MemPlace} (hval : Value.okWide Tryd.prog W .any base 34 v) (h : DataW.Trod enc Tryd.prog W 0 (fun _ => true) true 34 v d ps)
    (hlt : ∀ p ∈ ps, p.block < W.heap.size) : ∃ (va vb : Value) (xs ys : List Nat), v = .agg #[va, vb] ∧ U W va xs ∧ U W vb ys := by
  obtain ⟨cs, rfl, hsz⟩ := okWide_arr' Tryd.underlying34 hval
  rw [show Tryd.prog.cellsOf 34 = 2 by kernel_rfl] at hsz
  obtain ⟨l⟩ := cs
  match l, hsz with
  | [c0, c1], _ =>
    obtain ⟨fuel, hf⟩ := h
    obtain ⟨y0, y1, n, h0, h1⟩ := trod_array2 Tryd.underlying34 (show Tryd.prog.cellsOf 22 = 1 by kernel_rfl) hf
    obtain ⟨xs0, u0⟩ := open_limbs1 h0
    obtain ⟨xs1, u1⟩ := open_limbs1 h1
    exact ⟨c0, c1, xs0, xs1, rfl, u0, u1⟩
theorem open_three {H : Type} {enc : TypeId × Value → H} {W : World} {base : Nat} {v : Value} {d : DataW H} {ps : List MemPlace} (hval : Value.okWide Tryd.prog W .any base 31 v) (h : DataW.Trod enc Tryd.prog W 0 (fun _ => true) true 31 v d ps)
    (hlt : ∀ p ∈ ps, p.block < W.heap.size) : ∃ (va vb vc : Value) (xs ys zs : List Nat), v = .agg #[va, vb, vc] ∧ U W va xs ∧ U W vb ys ∧ U W vc zs := by
  obtain ⟨cs, rfl, hsz⟩ := okWide_arr' Tryd.underlying31 hval
  rw [show Tryd.prog.cellsOf 31 = 3 by kernel_rfl] at hsz
  obtain ⟨l⟩ := cs
  match l, hsz with
  | [c0, c1, c2], _ =>
    obtain ⟨fuel, hf⟩ := h
    obtain ⟨y0, y1, y2, n, hx, h0, h1, h2⟩ := trod_array3 Tryd.underlying31 (show Tryd.prog.cellsOf 22 = 1 by kernel_rfl) hf
    obtain ⟨xs0, u0⟩ := open_limbs1 h0
    obtain ⟨xs1, u1⟩ := open_limbs1 h1
    obtain ⟨xs2, u2⟩ := open_limbs1 h2
    exact ⟨c0, c1, c2, xs0, xs1, xs2, rfl, u0, u1, u2⟩

def Bx2 (w : World) (B : Nat) (va vb : Value) : Prop := B < w.heap.size ∧ w.cell? ⟨B, 0, none⟩ = some va ∧ w.cell? ⟨B, 1, none⟩ = some vb
theorem Bx2.ext {w w' : World} {B : Nat} {va vb : Value} (h : Bx2 w B va vb) (hB : Ext w w') : Bx2 w' B va vb := by
  obtain ⟨h0, h1, h2⟩ := h
  have hc := fun o => hB.cell (p := ⟨B, o, none⟩) h0
  exact ⟨Nat.lt_of_lt_of_le h0 hB.size, by rw [hc]; exact h1, by rw [hc]; exact h2⟩
theorem Bx2.new (w : World) (A A2 : Option Addr) (la ca lb cb : Nat) : Bx2 (w.alloc (.cells #[.slice A la ca, .slice A2 lb cb] 34)) w.heap.size (.slice A la ca) (.slice A2 lb cb) := ⟨by simp, by go_simp, by go_simp⟩
def Bx3 (w : World) (B : Nat) (va vb vc : Value) : Prop := B < w.heap.size ∧ w.cell? ⟨B, 0, none⟩ = some va ∧ w.cell? ⟨B, 1, none⟩ = some vb ∧ w.cell? ⟨B, 2, none⟩ = some vc
theorem Bx3.ext {w w' : World} {B : Nat} {va vb vc : Value} (h : Bx3 w B va vb vc) (hB : Ext w w') : Bx3 w' B va vb vc := by
  obtain ⟨h0, h1, h2, h3⟩ := h
  have hc := fun o => hB.cell (p := ⟨B, o, none⟩) h0
  exact ⟨Nat.lt_of_lt_of_le h0 hB.size, by rw [hc]; exact h1, by rw [hc]; exact h2, by rw [hc]; exact h3⟩
theorem Bx3.new (w : World) (A A2 A3 : Option Addr) (la ca lb cb lc cc : Nat) : Bx3 (w.alloc (.cells #[.slice A la ca, .slice A2 lb cb, .slice A3 lc cc] 31)) w.heap.size (.slice A la ca) (.slice A2 lb cb) (.slice A3 lc cc) := ⟨by simp, by go_simp, by go_simp, by go_simp⟩

/-- At most k limbs. -/
def Ltl (n k : Nat) : Prop := n < LB ^ k
theorem cut_lt (xs : List Nat) (k : Nat) (hx : ∀ x ∈ xs, x < 4294967296) : Ltl (cutN xs k) k := by
  have h := val_lt (xs.take k) (fun x h => hx x (List.mem_of_mem_take h))
  refine Nat.lt_of_lt_of_le h (Nat.pow_le_pow_right (by decide) ?_)
  rw [List.length_take]; omega
theorem mul_lt {n m i j : Nat} (hn : Ltl n i) (hm : Ltl m j) : Ltl (n * m) (i + j) := by
  unfold Ltl at *
  rw [Nat.pow_add]; exact Nat.mul_lt_mul'' hn hm
theorem ladd_lt {n m i : Nat} (hn : Ltl n i) (hm : Ltl m i) : Ltl (n + m) (i + 1) := by
  unfold Ltl at *
  rw [Nat.pow_succ]; unfold LB at *; omega
theorem Ltl.le {n m i : Nat} (hn : Ltl n i) (h : m ≤ n) : Ltl m i := Nat.lt_of_le_of_lt h hn
theorem len398 {n k : Nat} (h : Ltl n k) (hk : k ≤ 398) : (limbs n).length ≤ 398 := Nat.le_trans (len_of h) hk
theorem lenG {n : Nat} (h : (limbs n).length ≤ 398) : (limbs n).length ≤ 1000000000 := Nat.le_trans h (by decide)
end Go.Proofs.YtkmejhkdmnjbeaaDoor
