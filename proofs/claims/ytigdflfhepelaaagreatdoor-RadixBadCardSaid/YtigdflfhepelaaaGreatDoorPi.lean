/- Products by transforms. -/
import Derived.Test.YtigdflfhepelaaaGreatDoorPh
import Derived.Laws.IdiomArrays
import Derived.WideKeyPair
import Derived.WideKeyArr2

namespace Go.Proofs.YtigdflfhepelaaaGreatDoor
open Go.RowKit
set_option linter.unusedVariables false
set_option maxHeartbeats 400000

theorem bb_pow (k : Nat) : BB ^ k = LB ^ (2 * k) := by rw [Nat.pow_mul]; rfl
theorem cvs_ltM (a b : List Nat) (ha : ∀ x ∈ a, x < 4294967296) (hb : ∀ x ∈ b, x < 4294967296) (hl : a.length ≤ 100000) : ∀ x ∈ cvs a b, x < 79228162514264337593543950336 := by
  intro x hx
  unfold cvs at hx
  split at hx
  · cases hx
  · obtain ⟨m, _, rfl⟩ := List.mem_map.1 hx
    have h1 := cv_le a b ha hb a.length m
    have h2 := Nat.mul_le_mul_right 18446744065119617025 hl
    omega
theorem cvs_len_le (a b : List Nat) : (cvs a b).length ≤ a.length + b.length := by
  unfold cvs
  split
  · simp
  · rw [conv_len]; omega
/-- The product of the first a limbs is there, in words. -/
structure FaI (xs ys : List Nat) (m a : Nat) (o : List Nat) : Prop where
  len : o.length = m
  lt : ∀ x ∈ o, x < 18446744073709551616
  val : wal o = val (xs.take a) * val ys
theorem lprod_lt {as_ bs : List Nat} (ha : ∀ x ∈ as_, x < 4294967296) (hb : ∀ x ∈ bs, x < 4294967296) : val as_ * val bs < LB ^ (as_.length + bs.length) := by
  rw [Nat.pow_add]
  exact Nat.mul_lt_mul'' (val_lt as_ ha) (val_lt bs hb)
theorem U.drop_ {w : World} {ad : Addr} {n c : Nat} {xs : List Nat} (h : U w (.slice (some ad) n c) xs) {k m c' : Nat} (hk : k ≤ n) (hm : n - k = m) (hc' : m ≤ c') : U w (.slice (some (ad.add k)) m c') (xs.drop k) := by
  obtain ⟨A, c, hv, hc, hx, hr⟩ := h
  injection hv with h1 h2 h3
  subst h1 h2 h3
  have hlen : (xs.drop k).length = m := by simp; omega
  refine ⟨_, c', by rw [hlen], by omega, fun x hx' => hx x (List.mem_of_mem_drop hx'), fun h0 => ?_⟩
  obtain ⟨ad', hA, hb, hcell⟩ := hr (by omega)
  injection hA with hA
  subst hA
  refine ⟨_, rfl, by rw [addr_add_block]; exact hb, fun j hj => ?_⟩
  rw [addr_add_add, hcell (k + j) (by omega), lb_drop]
theorem conv_M (W : World) (hg : Gl W) (A A2 : Option Addr) (na nb ca cb : Nat) (a b : List Nat) (n : Nat) (h1 : U W (.slice A na ca) a) (h2 : U W (.slice A2 nb cb) b) (hna : na ≤ 30000) (hnb : nb ≤ 30000) (hn : (cvs a b).length = n) :
    Calls Tryz.prog 96 #[.slice A na ca, .slice A2 nb cb] W fun e w' => ∃ A3 c3, e = .returned (.slice A3 n c3) ∧ U3 w' (.slice A3 n c3) (cvs a b) ∧ Ext W w' := by
  have e1 : a.length = na := by obtain ⟨_, _, e, _⟩ := h1; injection e with _ e _; exact e.symm
  have e2 : b.length = nb := by obtain ⟨_, _, e, _⟩ := h2; injection e with _ e _; exact e.symm
  refine (conv_all W hg _ _ a b h1 h2 (by omega) (by omega) _ rfl).mono ?_
  rintro e w' ⟨z, rfl, hz, hB⟩
  obtain ⟨A3, c3, e3, _⟩ := id hz
  rw [hn] at e3
  subst e3
  exact ⟨A3, c3, rfl, hz, hB⟩

set_option maxRecDepth 100000 in
set_option maxHeartbeats 8000000 in
theorem fast_core (b : Bool) (w : World) (hg : Gl w) (vx vy : Value) (xs ys : List Nat) (nx ny : Nat) (hx : U w vx xs) (hy : U w vy ys) (hnx : xs.length = nx) (hny : ys.length = ny) (hle : ny ≤ nx) (hb : b = true → ny < nx) (hn : nx ≤ 1000) :
    Calls Tryz.prog 67 #[(if b then vy else vx), (if b then vx else vy)] w fun e w' => (∃ u, e = .returned u ∧ Un w' u (val xs * val ys)) ∧ Ext w w' := by
  obtain ⟨A, ca, rfl, hca⟩ := hx.shape
  obtain ⟨A2, cb, rfl, hcb⟩ := hy.shape
  have HL : Hid (xs.length = nx ∧ ys.length = ny) := ⟨hnx, hny⟩
  rw [hnx] at hx hca ⊢
  rw [hny] at hy hcb ⊢
  have hlt : b = true → ny < nx := hb
  have hd32 : decide ((32768 : Int) < (ny : Int)) = false := by rw [decide_eq_false_iff_not]; omega
  clear hnx hny hb
  cases b
  case' false =>
    show Calls Tryz.prog 67 #[.slice A nx ca, .slice A2 ny cb] w _
    have hd : decide ((nx : Int) < (ny : Int)) = false := by rw [decide_eq_false_iff_not]; omega
    go_enter Tryz.func67, Tryz.ntmps67
    go_upto_region 3 with (fail)
  case' true =>
    show Calls Tryz.prog 67 #[.slice A2 ny cb, .slice A nx ca] w _
    have hlt' := hlt rfl
    have hd : decide ((ny : Int) < (nx : Int)) = true := by rw [decide_eq_true_iff]; omega
    go_enter Tryz.func67, Tryz.ntmps67
    go_upto_region 3 with (fail)
  all_goals
    clear hd hlt
    by_cases hny0 : ny = 0
    · have hys : ys = [] := List.length_eq_zero_iff.1 (by rw [HL.out.2]; exact hny0)
      have HF : Hid (∃ u', Ending.returned (.slice none 0 0) = .returned u' ∧ Un w u' (val xs * val ys)) := ⟨_, rfl, by rw [hys]; show Un w _ (val xs * 0); rw [Nat.mul_zero]; exact Un_nil w⟩
      have hE := Ext.refl w
      subst hny0
      clear hys
      go_wp2
      go_ret
      exact ⟨HF.out, hE⟩
    · have hz : (((ny : Nat) : Int) == 0) = false := by rw [beq_eq_false_iff_ne]; omega
      have hw4 : IntKind.u64.wrap (4 * (ny : Int)) = ((4 * ny : Nat) : Int) := by rw [IntKind.wrap_u64]; omega
      have h4 : (4 : Int) * (ny : Int) = ((4 * ny : Nat) : Int) := by omega
      have hw4' : IntKind.u64.wrap ((4 * ny : Nat) : Int) = ((4 * ny : Nat) : Int) := by rw [IntKind.wrap_u64]; omega
      have hm4 : ((4 * ny : Nat) : Int) % 18446744073709551616 = ((4 * ny : Nat) : Int) := by omega
      obtain ⟨L, hL⟩ : ∃ L, blen (4 * ny) = L := ⟨_, rfl⟩
      have hlen := Lib.hid (len_calls w (4 * ny) (by omega))
      rw [hL] at hlen
      have hQ1 := lt_pow_blen (4 * ny)
      have hQ2 := pow_blen_le (n := 4 * ny) (by omega)
      have hL1 : 1 ≤ L := by rw [← hL]; exact blen_pos (by omega)
      rw [hL] at hQ1 hQ2
      have hQ3 : 2 ^ L = 2 * 2 ^ (L - 1) := by rw [← Nat.pow_succ']; congr 1; omega
      obtain ⟨Q, hQ⟩ : ∃ Q, 2 ^ L = Q := ⟨_, rfl⟩
      rw [hQ] at hQ1 hQ3
      have hQ4 : Q ≤ 8 * ny := by omega
      have hsh : (2 : Int) ^ L = (Q : Int) := by rw [← hQ, Int.natCast_pow]; rfl
      have hL64 : L ≤ 20 := by
        rcases Nat.lt_or_ge 20 L with h | h
        · have : 2 ^ 21 ≤ 2 ^ L := Nat.pow_le_pow_right (by decide) h
          rw [hQ] at this
          have : (2 : Nat) ^ 21 = 2097152 := by decide
          omega
        · exact h
      clear hQ2 hQ3
      generalize 4 * ny = n4 at *
      go_wp2_with (fail)
      refine hlen.out.mono ?_
      rintro e w1 ⟨rfl, rfl⟩
      obtain ⟨q0, hq0⟩ : ∃ q0, Q - ny = q0 := ⟨_, rfl⟩
      have hq0i : (Q : Int) - (ny : Int) = (q0 : Int) := by omega
      have hq0a : 2 ≤ q0 := by omega
      have hq0b : q0 ≤ 8000 := by omega
      have hQw : IntKind.i64.wrap (Q : Int) = (Q : Int) := IntWalk.i64_in _ (by omega)
      have hmin1 : (if (32768 : Int) < (q0 : Int) then (32768 : Int) else (q0 : Int)) = (q0 : Int) := by split <;> omega
      have hmin2 : min (q0 : Int) 32768 = (q0 : Int) := by omega
      have hmin3 : (if 32768 < q0 then (32768 : Int) else (q0 : Int)) = (q0 : Int) := by split <;> omega
      have hand := i64_andNot1 q0 (by omega)
      obtain ⟨pc, hpc⟩ : ∃ pc, q0 - q0 % 2 = pc := ⟨_, rfl⟩
      obtain ⟨ph, hph⟩ : ∃ ph, q0 / 2 = ph := ⟨_, rfl⟩
      rw [hpc] at hand
      have hpp : pc = 2 * ph := by omega
      have hph1 : 1 ≤ ph := by omega
      have hph2 : ph ≤ 4000 := by omega
      have hpc1 : 2 ≤ pc := by omega
      have hpc2 : pc ≤ 8000 := by omega
      have HPP := Lib.hid hpp
      clear hpp
      obtain ⟨sh2, hsh2⟩ : ∃ sh2, (nx + ny) / 2 = sh2 := ⟨_, rfl⟩
      have hsi : ((nx : Int) + (ny : Int)) / 2 = (sh2 : Int) := by omega
      obtain ⟨m, hm⟩ : ∃ m, sh2 + 2 = m := ⟨_, rfl⟩
      have hmi : (sh2 : Int) + 2 = (m : Int) := by omega
      have hmm : nx + ny + 1 ≤ 2 * m := by omega
      have hmb : m ≤ 3000 := by omega
      obtain ⟨i0, hi, hz0, hz1, hz2⟩ := info_parts info64
      obtain ⟨B, hB⟩ : ∃ B, w.heap.size = B := ⟨_, rfl⟩
      have HBS := Lib.hid hB
      clear hlen hw4 h4 hw4' hm4 hL hQ1 hL1 hQ hQ4 hq0 hpc hph hq0a hph1 hph2
      go_wp2_with (at_make; refine wpList_make_full _ rfl _ _ 114 rfl w.heap.size 39 i0 (.int .u64 0) 1 Tryz.underlying114 hi hz0 hz1 _ _ _ _ m rfl rfl (by omega) (by omega) (by rw [hz2]; omega) (by unfold maxLen; omega) (Nat.le_refl _) ?_; intro w2 hown hgrow)
      have ho0 := Ow.zeros hown
      have hE0 : Ext w w2 := (Ext.refl w).grown hgrow (Nat.le_refl _) (fun _ h => by cases h)
      rw [hB] at ho0
      clear hown hgrow hi hz0 hz1 hz2 i0 hB
      have hS0 : Hid (FaI xs ys m (2 * 0) (List.replicate m 0)) := ⟨by simp, fun x hx => by simp at hx; omega, by simp [wal_zeros, val]⟩
      have hlimx := Lib.hid hx.lim
      have hlimy := Lib.hid hy.lim
      go_wp2
      go_loopw [7] (fun t wr => ∃ (ah : Nat) (o : List Nat), 2 * ah ≤ 20000 ∧ t = .int .i64 ((2 * ah : Nat) : Int) ∧ Hid (FaI xs ys m (2 * ah) o) ∧ Ow wr B (.slice (some ⟨B, 0, none⟩) m m) o ∧ Ext w wr) (fun t _ => nx - (intOf t).toNat)
      case atStart => exact ⟨0, _, by decide, rfl, hS0, ho0, hE0⟩
      case round =>
        clear hS0 ho0 hE0
        obtain ⟨ah, o, hah, rfl, HO, hown, hE⟩ := hrel
        obtain ⟨a, ha⟩ : ∃ a, 2 * ah = a := ⟨_, rfl⟩
        rw [ha] at hah HO ⊢
        have hahi : (a : Int) / 2 = (ah : Int) := by omega
        have HA := Lib.hid ha
        by_cases hlt : a < nx
        · obtain ⟨ad, cx, hvx, hcx, hbx, hcellx⟩ := hx.opened HL.out.1 (by omega)
          injection hvx with w1 w2 w3
          subst w1 w3
          clear w2 hcellx hbx hcx
          obtain ⟨e, he⟩ : ∃ e, min (a + pc) nx = e := ⟨_, rfl⟩
          obtain ⟨p, hpe⟩ : ∃ p, e - a = p := ⟨_, rfl⟩
          obtain ⟨r, hrn⟩ : ∃ r, m - ah = r := ⟨_, rfl⟩
          have hmn1 : (if (nx : Int) < (a : Int) + (pc : Int) then (nx : Int) else (a : Int) + (pc : Int)) = (e : Int) := by split <;> omega
          have hmn2 : min ((a : Int) + (pc : Int)) (nx : Int) = (e : Int) := by omega
          have hmn3 : (if nx < a + pc then (nx : Int) else (a : Int) + (pc : Int)) = (e : Int) := by split <;> omega
          have f1 : a < e := by omega
          have f2 : (a : Int) < (e : Int) := by omega
          have f3 : e ≤ ca := by omega
          have f4 : (e : Int) ≤ (ca : Int) := by omega
          have f5 : (a : Int) ≤ (e : Int) := by omega
          have f6 : ¬ (e = a) := by omega
          have f7 : (0 : Int) ≤ (a : Int) := by omega
          have f8 : ah < m := by omega
          have f9 : (ah : Int) < (m : Int) := by omega
          have f10 : (ah : Int) ≤ (m : Int) := by omega
          have f11 : ¬ (m = ah) := by omega
          have f12 : e ≤ nx := by omega
          have f13 : (0 : Int) ≤ (e : Int) := by omega
          have f14 : (e : Int) ≤ (nx : Int) := by omega
          have f16 : ah + r = m := by omega
          have f17 : (0 : Int) ≤ (ah : Int) := by omega
          have f18 : p ≤ 1000 := by omega
          have hm6 : m ≤ 1000000 := by omega
          have hwa : IntKind.i64.wrap (ah : Int) = (ah : Int) := IntWalk.i64_in _ (by omega)
          have hwa2 : IntKind.i64.wrap ((a : Int) / 2) = (ah : Int) := by rw [hahi]; exact hwa
          have hta2 : (a : Int).tdiv 2 = (ah : Int) := by rw [Int.tdiv_eq_ediv_of_nonneg (by omega)]; exact hahi
          obtain ⟨P, hP⟩ : ∃ P, (xs.take e).drop a = P := ⟨_, rfl⟩
          have hxp : U wr.drew (.slice (some (ad.add a)) p p) P := by
            rw [← hP]
            exact (((hx.below hE).take f12 (Nat.le_refl e)).drop_ (Nat.le_of_lt f1) hpe (Nat.le_refl _)).below (Ext.refl wr).drew
          have hyd : U wr.drew (.slice A2 ny cb) ys := (hy.below hE).below (Ext.refl wr).drew
          have hgD : Gl wr.drew := (hg.ext hE).ext (Ext.refl wr).drew
          have hlp : P.length = p := by rw [← hP, List.length_drop, List.length_take, HL.out.1]; omega
          obtain ⟨nc, hnc⟩ : ∃ nc, (cvs P ys).length = nc := ⟨_, rfl⟩
          have hncb : (cvs P ys).length ≤ 100000 := by have := cvs_len_le P ys; rw [hlp, HL.out.2] at this; omega
          have hC := Lib.hid (conv_M wr.drew hgD (some (ad.add a)) A2 p ny p cb P ys nc hxp hyd (by omega) (by omega) hnc)
          have hCa := Lib.hid (fun W v h => carry_calls W v (cvs P ys) h (cvs_ltM P ys hxp.lim hyd.lim (by omega)) hncb)
          obtain ⟨N, hN⟩ : ∃ N, val P * val ys = N := ⟨_, rfl⟩
          have hcv := cval_cvs P ys
          rw [hN] at hcv
          rw [hcv] at hCa
          have hNb : N < 4294967296 ^ (p + ny) := by
            have := lprod_lt hxp.lim hyd.lim
            rw [hN, hlp, HL.out.2] at this
            exact this
          have hNl := len_le_of_lt hNb
          obtain ⟨mw, hmw⟩ : ∃ mw, ((limbs N).length + 1) / 2 = mw := ⟨_, rfl⟩
          have hPk := Lib.hid (fun W v h => pack_calls W v (limbs N) h (by omega) mw hmw)
          have hwl := Lib.hid (packL_lt (limbs N) (limbs_lt N))
          have hwv : Hid (wal (packL (limbs N)) = N) := by rw [Hid, wal_packL, val_limbs]
          have hwn : Hid ((packL (limbs N)).length ≤ r) := by rw [Hid, packL_len, hmw]; omega
          have hcut := val_cut (xs.take e) a (by rw [List.length_take, HL.out.1]; omega)
          rw [List.take_take, Nat.min_eq_left (by omega), hP] at hcut
          have hHC := Lib.hid hcut
          have hTE : Hid (xs.take (a + pc) = xs.take e) := by
            rcases Nat.le_total (a + pc) nx with h | h
            · rw [Hid, ← he, Nat.min_eq_left h]
            · rw [Hid, ← he, Nat.min_eq_right h, List.take_of_length_le (by rw [HL.out.1]; exact h), List.take_of_length_le (by rw [HL.out.1]; exact Nat.le_refl _)]
          have hprod : Hid (val (xs.take e) * val ys < BB ^ m) := by
            have h1 := lprod_lt (as_ := xs.take e) (bs := ys) (fun x h => hlimx.out x (List.mem_of_mem_take h)) hlimy.out
            rw [Hid, bb_pow]
            refine Nat.lt_of_lt_of_le h1 (Nat.pow_le_pow_right (by decide) ?_)
            rw [List.length_take, HL.out.1, HL.out.2]; omega
          have hNN := Lib.hid hN
          have hownD : Ow wr.drew B (.slice (some ⟨B, 0, none⟩) m m) o := hown
          have hstep : Hid (a + pc = 2 * (ah + ph)) := by have := HPP.out; rw [Hid]; omega
          have hstep2 : a + pc ≤ 20000 := by omega
          clear hxp hyd hcut he hown hx hy hlp hP hN hcv hNb hNl hmw hnc hncb hgD ha
          go_wp2_with (fail)
          go_region_held3 (fun X => True)
            (first
              | exact trivial)
            (first
              | (go_at_call 96; ((with_reducible refine hC.out.mono ?_); rintro e3 w3 ⟨A3, c3, rfl, hz3, hB3⟩))
              | (go_at_call 95; ((with_reducible refine (hCa.out _ _ hz3).mono ?_); rintro e4 w4 ⟨⟨u4, rfl, hu4⟩, hB4⟩; have hu5 : U w4 u4 (limbs N) := hu4))
              | (go_at_call 88; ((with_reducible refine (hPk.out _ _ hu5).mono ?_); rintro e5 w5 ⟨rfl, ho5, hB5⟩; have hownE := ((hownD.ext hB3).ext hB4).ext hB5; have hg4 := hownD.block.2; have hs3 := hB3.size; have hs4 := hB4.size; have hV5 := ho5.toV hwl.out B (by omega)))
              | (go_at_call 94; ((with_reducible refine (addTo_calls w5 B B m m ah r r o _ _ hownE HO.out.lt (Nat.le_of_eq f16) (Nat.le_refl _) hm6 hV5 hwn.out).mono ?_); rintro e6 w6 ⟨⟨o6, cy6, rfl, hA6, ho6⟩, hB6⟩)))
          have hval : wal o + BB ^ ah * wal (packL (limbs N)) = val (xs.take e) * val ys := by
            rw [HO.out.val, hwv.out, bb_pow, HA.out, hHC.out, Nat.add_mul, Nat.mul_assoc, hNN.out]
          have hv6 := hA6.done f16 (by rw [hval]; exact hprod.out)
          rw [hval] at hv6
          have HST : Hid (FaI xs ys m (2 * (ah + ph)) o6) := ⟨hA6.len, hA6.lt, by rw [← hstep.out, hTE.out]; exact hv6⟩
          have hE6 : Ext w w6 := (((hE.drew.below hB3).below hB4).below hB5).but hB6 (by rw [HBS.out]; exact Nat.le_refl _)
          clear hv6 hA6 hB6 hB5 hB4 hB3 hval hC hCa hPk hV5 hownE ho5 hu4 hz3 hHC hTE hprod hownD HO hwl hwv hwn hNN
          go_wp2
          go_roundw
          case rel => exact ⟨ah + ph, _, by rw [← hstep.out]; exact hstep2, by rw [← hstep.out]; go_num, HST, ho6, hE6⟩
          case measure => simp [intOf]; omega
        · have hta : xs.take a = xs := List.take_of_length_le (by rw [HL.out.1]; omega)
          have hvv : Hid (wal o = val xs * val ys) := by rw [Hid, HO.out.val, hta]
          have hV := hown.toV HO.out.lt (B + 1) (by omega)
          have hol := HO.out.len
          clear hta HO hown
          go_wp2_with (fail)
          refine (unpack_calls _ _ _ o hV (by omega)).mono ?_
          rintro e5 w5 ⟨⟨u, rfl, hu⟩, hB⟩
          rw [hvv.out] at hu
          replace hE := hE.below hB
          have HF : Hid (∃ u', Ending.returned u = .returned u' ∧ Un w5 u' (val xs * val ys)) := ⟨_, rfl, hu⟩
          clear hB hu hvv
          go_wp2
          go_ret
          exact ⟨HF.out, hE⟩
theorem fast_calls (w : World) (hg : Gl w) (va vb : Value) (xs ys : List Nat) (ha : U w va xs) (hb : U w vb ys) (hla : xs.length ≤ 1000) (hlb : ys.length ≤ 1000) :
    Calls Tryz.prog 67 #[va, vb] w fun e w' => (∃ u, e = .returned u ∧ Un w' u (val xs * val ys)) ∧ Ext w w' := by
  by_cases hlt : xs.length < ys.length
  · have := fast_core true w hg vb va ys xs _ _ hb ha rfl rfl (by omega) (fun _ => hlt) hlb
    rw [Nat.mul_comm (val ys)] at this
    exact this
  · exact fast_core false w hg va vb xs ys _ _ ha hb rfl rfl (by omega) (fun h => by cases h) hla
end Go.Proofs.YtigdflfhepelaaaGreatDoor
/- Products by whichever way; powers. -/
namespace Go.Proofs.YtigdflfhepelaaaGreatDoor
open Go.RowKit
set_option linter.unusedVariables false
set_option maxHeartbeats 400000

theorem mul_calls' (w : World) (va vb : Value) (xs ys : List Nat) (ha : U w va xs) (hb : U w vb ys) (hla : xs.length ≤ 1000) (hlb : ys.length ≤ 1000) (h398 : min xs.length ys.length ≤ 398) :
    Calls Tryz.prog 47 #[va, vb] w fun e w' => (∃ u, e = .returned u ∧ Un w' u (val xs * val ys)) ∧ Ext w w' := by
  obtain ⟨A, ca, rfl, hca⟩ := ha.shape
  obtain ⟨A2, cb, rfl, hcb⟩ := hb.shape
  have hSc := Lib.hid (school_calls w _ _ xs ys ha hb hla hlb)
  have hKa := Lib.hid (karat_calls w _ _ xs ys ha hb hla hlb)
  have hTo := Lib.hid (toom_calls w _ _ xs ys ha hb hla hlb h398)
  generalize xs.length = lx at *
  generalize ys.length = ly at *
  obtain ⟨m, hm⟩ : ∃ m, min lx ly = m := ⟨_, rfl⟩
  have hm1 : (if (ly : Int) < (lx : Int) then (ly : Int) else (lx : Int)) = (m : Int) := by split <;> omega
  have hm3 : (if ly < lx then (ly : Int) else (lx : Int)) = (m : Int) := by split <;> omega
  obtain ⟨q, hq⟩ : ∃ q, (m + 1) / 2 = q := ⟨_, rfl⟩
  have hqi : ((m : Int) + 1) / 2 = (q : Int) := by omega
  have hq200 : q < 200 := by omega
  clear ha hb hm hq h398
  by_cases h40 : q < 40
  · have hd : decide ((q : Int) < 40) = true := by rw [decide_eq_true_iff]; omega
    go_enter Tryz.func47, Tryz.ntmps47
    go_wp2_with (fail)
    refine hSc.out.mono ?_
    rintro e w1 ⟨⟨u, rfl, hu⟩, hB⟩
    have HF : Hid (∃ u', Ending.returned u = .returned u' ∧ Un w1 u' (val xs * val ys)) := ⟨_, rfl, hu⟩
    clear hu
    go_wp2
    go_ret
    exact ⟨HF.out, hB⟩
  · have hd : decide ((q : Int) < 40) = false := by rw [decide_eq_false_iff_not]; omega
    have hd2 : decide ((q : Int) < 200) = true := by rw [decide_eq_true_iff]; omega
    go_enter Tryz.func47, Tryz.ntmps47
    go_wp2_with (fail)
    refine hKa.out.mono ?_
    rintro e w1 ⟨⟨u, rfl, hu⟩, hB⟩
    have HF : Hid (∃ u', Ending.returned u = .returned u' ∧ Un w1 u' (val xs * val ys)) := ⟨_, rfl, hu⟩
    clear hu
    go_wp2
    go_ret
    exact ⟨HF.out, hB⟩

/-- A number of at most so many limbs. -/
theorem len_of {n k : Nat} (h : n < LB ^ k) : (limbs n).length ≤ k := len_le_of_lt h
theorem U.asUn {w : World} {v : Value} {n : Nat} (h : Un w v n) : U w v (limbs n) := h
theorem un_lt {n : Nat} : n < LB ^ (limbs n).length := by
  have := val_lt (limbs n) (limbs_lt n)
  rwa [val_limbs] at this

/-- What a product asks for, and what it is. -/
def Pd (f : Nat) : Prop := ∀ (w : World) (va vb : Value) (n m k : Nat), Gl w → Un w va n → Un w vb m → (limbs n).length ≤ 398 → (limbs m).length ≤ 398 → n * m = k → Calls Tryz.prog f #[va, vb] w fun e w' => ∃ u, e = .returned u ∧ Un w' u k ∧ Ext w w'
theorem school_B : Pd 64 := fun w va vb n m k _ ha hb hn hm hk => by
  refine (school_calls w va vb _ _ ha hb (by omega) (by omega)).mono ?_
  rw [val_limbs, val_limbs, hk]
  rintro e w' ⟨⟨u, h1, h2⟩, h3⟩
  exact ⟨u, h1, h2, h3⟩
theorem karat_B : Pd 65 := fun w va vb n m k _ ha hb hn hm hk => by
  refine (karat_calls w va vb _ _ ha hb (by omega) (by omega)).mono ?_
  rw [val_limbs, val_limbs, hk]
  rintro e w' ⟨⟨u, h1, h2⟩, h3⟩
  exact ⟨u, h1, h2, h3⟩
theorem toom_B : Pd 66 := fun w va vb n m k _ ha hb hn hm hk => by
  refine (toom_calls w va vb _ _ ha hb (by omega) (by omega) (by omega)).mono ?_
  rw [val_limbs, val_limbs, hk]
  rintro e w' ⟨⟨u, h1, h2⟩, h3⟩
  exact ⟨u, h1, h2, h3⟩
theorem fast_B : Pd 67 := fun w va vb n m k hg ha hb hn hm hk => by
  refine (fast_calls w hg va vb _ _ ha hb (by omega) (by omega)).mono ?_
  rw [val_limbs, val_limbs, hk]
  rintro e w' ⟨⟨u, h1, h2⟩, h3⟩
  exact ⟨u, h1, h2, h3⟩
theorem mul_B : Pd 47 := fun w va vb n m k _ ha hb hn hm hk => by
  refine (mul_calls' w va vb _ _ ha hb (by omega) (by omega) (by omega)).mono ?_
  rw [val_limbs, val_limbs, hk]
  rintro e w' ⟨⟨u, h1, h2⟩, h3⟩
  exact ⟨u, h1, h2, h3⟩

end Go.Proofs.YtigdflfhepelaaaGreatDoor
/- Quotient and rest, word by word. -/
namespace Go.Proofs.YtigdflfhepelaaaGreatDoor
open Go.RowKit
set_option linter.unusedVariables false
set_option maxHeartbeats 400000

theorem bb_two (n : Nat) : BB ^ n = 2 ^ (64 * n) := by
  rw [Nat.pow_mul, show (2 : Nat) ^ 64 = BB from by decide]
theorem lb_two (n : Nat) : (4294967296 : Nat) ^ n = 2 ^ (32 * n) := by
  rw [Nat.pow_mul, show (2 : Nat) ^ 32 = 4294967296 from by decide]
theorem bb_lb (n : Nat) : BB ^ n = 4294967296 ^ (2 * n) := by
  rw [bb_two, lb_two]; congr 1; omega
/-- What is shifted so that the divisor's first bit is set. -/
theorem words_math (b L n sh V : Nat) (hL : (limbs b).length = L) (h2 : 2 ≤ L) (hn : (L + 1) / 2 = n) (hsh : 64 * n - blen b = sh) (hV : b * 2 ^ sh = V) :
    blen b ≤ 64 * n ∧ sh ≤ 64 ∧ V < BB ^ n ∧ 9223372036854775808 * BB ^ (n - 1) ≤ V ∧ (limbs V).length ≤ 2 * n := by
  have h1 : blen b ≤ 32 * L := by rw [← hL]; exact blen_le_len b
  have h3 : 4294967296 ^ (L - 1) ≤ b := le_of_lt_len (by omega)
  rw [lb_two] at h3
  have h4 := lt_blen_of_le h3
  have hb0 : b ≠ 0 := by
    intro e
    rw [e, limbs_zero] at hL
    simp at hL; omega
  have h5 := lt_pow_blen b
  have h6 := pow_blen_le hb0
  have h7 : V < BB ^ n := by
    rw [← hV, bb_two, show 64 * n = blen b + sh by omega, Nat.pow_add]
    exact Nat.mul_lt_mul_of_pos_right h5 (Nat.two_pow_pos _)
  refine ⟨by omega, by omega, h7, ?_, len_le_of_lt (by rw [← bb_lb]; exact h7)⟩
  have h8 : 2 ^ (blen b - 1) * 2 ^ sh ≤ V := by rw [← hV]; exact Nat.mul_le_mul_right _ h6
  rw [← Nat.pow_add, show blen b - 1 + sh = 63 + 64 * (n - 1) by omega, Nat.pow_add, ← bb_two, show (2 : Nat) ^ 63 = 9223372036854775808 from by decide] at h8
  exact h8
theorem words_high (A lA n m : Nat) (hA : (limbs A).length = lA) (hm : max ((lA + 1) / 2) n + 1 = m) : A < BB ^ (m - 1) := by
  have h1 := lt_pow_len A
  rw [hA] at h1
  refine Nat.lt_of_lt_of_le h1 ?_
  rw [bb_lb]
  exact Nat.pow_le_pow_right (by decide) (by omega)
theorem words_top (vs : List Nat) (k V : Nat) (hl : vs.length = k + 1) (hx : ∀ x ∈ vs, x < 18446744073709551616) (hv : wal vs = V) (h : 9223372036854775808 * BB ^ k ≤ V) : 9223372036854775808 ≤ lb vs k := by
  have h1 := wal_lt_top vs k hl hx
  rw [hv, Nat.mul_comm] at h1
  have h2 : 9223372036854775808 * BB ^ k < (lb vs k + 1) * BB ^ k := by omega
  have := Nat.lt_of_mul_lt_mul_right h2
  omega

set_option maxRecDepth 100000 in
set_option maxHeartbeats 8000000 in
theorem words_calls (w : World) (va vb : Value) (a b q r : Nat) (ha : Un w va a) (hb : Un w vb b) (hla : (limbs a).length ≤ 1000) (hlb : (limbs b).length ≤ 1000) (h2 : 2 ≤ (limbs b).length) (hq : a / b = q) (hr : a % b = r) :
    Calls Tryz.prog 76 #[va, vb] w fun e w' => (∃ x y, e = .returned (.tuple #[x, y]) ∧ Un w' x q ∧ Un w' y r) ∧ Ext w w' := by
  obtain ⟨L, hL⟩ : ∃ L, (limbs b).length = L := ⟨_, rfl⟩
  obtain ⟨n, hn⟩ : ∃ n, (L + 1) / 2 = n := ⟨_, rfl⟩
  obtain ⟨bl, hbl⟩ : ∃ bl, blen b = bl := ⟨_, rfl⟩
  obtain ⟨sh, hsh⟩ : ∃ sh, 64 * n - bl = sh := ⟨_, rfl⟩
  obtain ⟨V0, hV⟩ : ∃ V0, b * 2 ^ sh = V0 := ⟨_, rfl⟩
  obtain ⟨A0, hA⟩ : ∃ A0, a * 2 ^ sh = A0 := ⟨_, rfl⟩
  rw [hL] at hlb h2
  obtain ⟨m1, m2, m3, m4, m5⟩ := words_math b L n sh V0 hL h2 hn (by rw [hbl]; exact hsh) hV
  rw [hbl] at m1
  obtain ⟨lA, hlA⟩ : ∃ lA, (limbs A0).length = lA := ⟨_, rfl⟩
  have hlA2 : lA ≤ 1002 := by rw [← hlA, ← hA]; exact Nat.le_trans (len_shl_c a 1000 sh 2 hla (by omega)) (by omega)
  obtain ⟨h, hh⟩ : ∃ h, (lA + 1) / 2 = h := ⟨_, rfl⟩
  obtain ⟨mx, hmx⟩ : ∃ mx, max h n = mx := ⟨_, rfl⟩
  obtain ⟨m, hm⟩ : ∃ m, mx + 1 = m := ⟨_, rfl⟩
  have hAlt := words_high A0 lA n m hlA (by rw [hh, hmx]; exact hm)
  obtain ⟨k, hk⟩ : ∃ k, m - n = k := ⟨_, rfl⟩
  have hkm : k + n = m := by omega
  have hk1 : 1 ≤ k := by omega
  have hn1 : 1 ≤ n := by omega
  have hnb : n ≤ 501 := by omega
  have hmb : m ≤ 503 := by omega
  obtain ⟨n1, hn1e⟩ : ∃ n1, n = n1 + 1 := ⟨n - 1, by omega⟩
  have HBits := Lib.hid (bits_B w vb b hb (by omega) (bl : Int) (by rw [hbl]))
  have HShb := Lib.hid (fun W v (h : Un W v b) => shl_B W v b (sh : Int) h (Int.natCast_nonneg _) (by omega) (by omega) V0 (by rw [Int.toNat_natCast]; exact hV))
  have HSha := Lib.hid (fun W v (h : Un W v a) => shl_B W v a (sh : Int) h (Int.natCast_nonneg _) (by omega) (by omega) A0 (by rw [Int.toNat_natCast]; exact hA))
  have HPv := Lib.hid (fun W v (h : Un W v V0) => dpack_calls W v (limbs V0) h (by omega) n (by omega) (by omega))
  have HPa := Lib.hid (fun W v (h : Un W v A0) => dpack_calls W v (limbs A0) h (by omega) m (by rw [hlA]; omega) (by omega))
  have HTOP : Hid (∀ vs : List Nat, vs.length = n → (∀ x ∈ vs, x < 18446744073709551616) → wal vs = V0 → 9223372036854775808 ≤ lb vs n1) := fun vs e1 e2 e3 => words_top vs n1 V0 (by omega) e2 e3 (by rw [show n1 = n - 1 by omega]; exact m4)
  have HST0 : Hid (∀ o : List Nat, o.length = m → (∀ x ∈ o, x < 18446744073709551616) → wal o = A0 → WdI V0 A0 n m k o (List.replicate k 0)) := fun o e1 e2 e3 => WdI.start V0 A0 n m o k hkm (by omega) e1 e2 e3 hAlt (Nat.le_trans (Nat.le_mul_of_pos_left _ (by decide)) m4)
  have HLT := Lib.hid m3
  obtain ⟨R0, hR0⟩ : ∃ R0, r * 2 ^ sh = R0 := ⟨_, rfl⟩
  have HDN : Hid (∀ o ql, WdI V0 A0 n m 0 o ql → wal ql = q ∧ wal (o.take n) = R0) := fun o ql h => by
    obtain ⟨d1, d2⟩ := h.done m3 (by omega)
    rw [← hA, ← hV, Nat.mul_div_mul_right _ _ (Nat.two_pow_pos sh), hq] at d1
    rw [← hA, ← hV, Nat.mul_mod_mul_right, hr, hR0] at d2
    exact ⟨d1.symm, d2⟩
  have hrb : (limbs R0).length ≤ 1002 := by
    rw [← hR0]
    refine Nat.le_trans (len_shl_c r 1000 sh 2 ?_ (by omega)) (by omega)
    exact Nat.le_trans (len_mono (by rw [← hr]; exact Nat.mod_le _ _)) hla
  have HShr := Lib.hid (fun W v (h : Un W v R0) => shr_B W v R0 (sh : Int) h (Int.natCast_nonneg _) (by omega) (by omega) r (by rw [Int.toNat_natCast, ← hR0]; exact Nat.mul_div_cancel _ (Nat.two_pow_pos sh)))
  have HNN := Lib.hid (And.intro hn1e (And.intro hkm (And.intro hk1 (And.intro hn1 (And.intro hnb hmb)))))
  have e1 : ((L : Int) + 1) / 2 = (n : Int) := by omega
  have e2 : ((L : Int) + 1).tdiv 2 = (n : Int) := by rw [Int.tdiv_eq_ediv_of_nonneg (by omega)]; exact e1
  have e3 : (64 : Int) * (n : Int) - (bl : Int) = (sh : Int) := by omega
  have e4 : ((lA : Int) + 1) / 2 = (h : Int) := by omega
  have e5 : ((lA : Int) + 1).tdiv 2 = (h : Int) := by rw [Int.tdiv_eq_ediv_of_nonneg (by omega)]; exact e4
  have e6 : (if (h : Int) < (n : Int) then (n : Int) else (h : Int)) = (mx : Int) := by split <;> omega
  have e7 : (if h < n then (n : Int) else (h : Int)) = (mx : Int) := by split <;> omega
  have e8 : (mx : Int) + 1 = (m : Int) := by omega
  have e9 : (m : Int) - (n : Int) = (k : Int) := by omega
  have HBD := Lib.hid (And.intro hlb (And.intro hlA2 (show bl ≤ 64 * 501 by omega)))
  obtain ⟨Ab, cb, rfl, hcb⟩ := hb.shape
  rw [hL] at HBits
  have hb' : Un w (.slice Ab (limbs b).length cb) b := hb
  rw [hL] at hb' ⊢
  have HLA := Lib.hid hlA
  have hEw := Ext.refl w
  clear hb hL hn hbl hsh hV hA hlA hh hmx hm hk m1 m3 m4 m5 hAlt hq hr hR0 hn1e hkm hk1 hn1 hcb
  go_enter Tryz.func76, Tryz.ntmps76
  go_wp2_with (fail)
  refine HBits.out.mono ?_
  rintro e w1 ⟨rfl, hB⟩
  replace hb' := U.below (U.asUn hb') hB
  replace ha := U.below (U.asUn ha) hB
  replace hEw := hEw.below hB
  clear hB HBits
  go_wp2_with (fail)
  refine (HShb.out _ _ hb').mono ?_
  rintro e w2 ⟨v2, rfl, hv2, hB⟩
  replace ha := U.below (U.asUn ha) hB
  replace hEw := hEw.below hB
  clear hB HShb hb'
  go_wp2_with (fail)
  have hs2 := hEw.size
  refine (HPv.out _ _ hv2).mono ?_
  rintro e w3 ⟨rfl, ⟨vs, hov, hwv, hxv, hlv⟩, hB⟩
  rw [val_limbs] at hwv
  replace hov := hov.base_mono hs2
  replace ha := U.below (U.asUn ha) hB
  replace hEw := hEw.below hB
  clear hB HPv hv2
  generalize w2.heap.size = gv at *
  go_wp2_with (fail)
  refine (HSha.out _ _ ha).mono ?_
  rintro e w4 ⟨va4, rfl, hva, hB⟩
  replace hov := hov.ext hB
  replace hEw := hEw.below hB
  clear hB HSha ha
  obtain ⟨Aa, ca, rfl, hca⟩ := U.shape (U.asUn hva)
  rw [HLA.out] at hva ⊢
  go_wp2_with (fail)
  have hs4 := hEw.size
  have hvb := hov.block
  refine (HPa.out _ _ hva).mono ?_
  rintro e w5 ⟨rfl, ⟨o, hoa, hwa, hxa, hlo⟩, hB⟩
  rw [val_limbs] at hwa
  have hne1 : gv ≠ w4.heap.size := by omega
  replace hoa := hoa.base_mono hs4
  replace hov := hov.ext hB
  replace hEw := hEw.below hB
  clear hB HPa hva hca hvb
  generalize w4.heap.size = gu at *
  have hST := HST0.out o hlo hxa hwa
  have HSS := Lib.hid hST
  have htop := HTOP.out vs hlv hxv hwv
  have hs5 := hEw.size
  have hub := hoa.block
  have hvb := hov.block
  have hne2 : gu ≠ w5.heap.size := by omega
  have hne3 : gv ≠ w5.heap.size := by omega
  obtain ⟨i0, hi, hz0, hz1, hz2⟩ := info_parts info64
  have hkb : k ≤ 503 := by have := HNN.out; omega
  have hmb : m ≤ 503 := by have := HNN.out; omega
  have hnb : n ≤ 501 := by have := HNN.out; omega
  have HTP := Lib.hid htop
  have HWV := Lib.hid hwv
  have HXV := Lib.hid hxv
  clear hST htop hwv hxv hwa hxa HST0 HTOP
  go_wp2_with (at_make; refine wpList_make_full _ rfl _ _ 114 rfl w5.heap.size 39 i0 (.int .u64 0) 1 Tryz.underlying114 hi hz0 hz1 _ _ _ _ k rfl rfl (by omega) (by omega) (by rw [hz2]; omega) (by unfold maxLen; omega) (Nat.le_refl _) ?_; intro w6 hown hgrow)
  have hoq := Ow.zeros hown
  have hE6 : Ext w5 w6 := (Ext.refl w5).grown hgrow (Nat.le_refl _) (fun _ h => by cases h)
  replace hoq := hoq.base_mono hs5
  replace hoa := hoa.ext hE6
  replace hov := hov.ext hE6
  replace hEw := hEw.below hE6
  generalize w5.heap.size = gq at *
  have hgu := hoa.block.1
  clear hown hgrow hi hz0 hz1 hz2 i0 hE6 hub hvb hs2 hs4 hs5
  go_wp2
  go_loopw [11] (fun t wr => ∃ (j : Nat) (z : Int) (o ql : List Nat), j ≤ k ∧ t = .int .i64 z ∧ z = (j : Int) - 1 ∧ Hid (WdI V0 A0 n m j o ql) ∧ Ow wr w.heap.size (.slice (some ⟨gu, 0, none⟩) m m) o ∧ Ow wr w.heap.size (.slice (some ⟨gq, 0, none⟩) k k) ql ∧ Ow wr w.heap.size (.slice (some ⟨gv, 0, none⟩) n n) vs ∧ Ext w wr) (fun t _ => (intOf t + 1).toNat)
  case atStart => exact ⟨k, _, _, _, Nat.le_refl _, rfl, rfl, HSS, hoa, hoq, hov, hEw⟩
  case round =>
    clear hoa hoq hov hEw HSS
    obtain ⟨j, z, o, ql, hj, rfl, hz, HO, hoa, hoq, hov, hE⟩ := hrel
    cases j with
    | zero =>
      obtain rfl : z = -1 := by omega
      obtain ⟨d1, d2⟩ := HDN.out o ql HO.out
      have hq0 := hoq.toV HO.out.xq (gq + 1) (by omega)
      have hlq : ql.length ≤ 1000000 := by have := HO.out.lq; omega
      have hu0 := (hoa.toV HO.out.xo (gu + 1) (by omega)).take (k := n) (c' := m) (by have := HNN.out; omega) (by have := HNN.out; omega)
      have hun : (o.take n).length ≤ 1000000 := by rw [List.length_take]; omega
      have HU1 := Lib.hid (dunpack_calls _ _ _ _ (V.below hq0 ((Ext.refl wr).drew)) hlq q d1)
      have HU2 := Lib.hid (fun W (h : V (gu + 1) W (.slice (some ⟨gu, 0, none⟩) n m) (o.take n)) => dunpack_calls W _ _ _ h hun R0 d2)
      have hu1 := V.below hu0 ((Ext.refl wr).drew)
      have b1 : (n : Int) ≤ (m : Int) := by have := HNN.out; omega
      have b2 : n ≤ m := by have := HNN.out; omega
      have b3 : (0 : Int) ≤ (n : Int) := Int.natCast_nonneg n
      clear d1 d2 hq0 hlq hun hu0 hoa hoq hov HO HDN hz HTP HWV HXV HNN
      go_wp2_with (fail)
      go_region_held3 (fun X => True)
        (first
          | exact trivial)
        (first
          | (go_at_call 104; ((with_reducible refine HU1.out.mono ?_); rintro e wa ⟨⟨x1, rfl, hx1⟩, hB1⟩; have hu2 := hu1.below hB1))
          | (go_at_call 104; ((with_reducible refine (HU2.out _ hu2).mono ?_); rintro e wb ⟨⟨x2, rfl, hx2⟩, hB2⟩; have hx1b := U.below (U.asUn hx1) hB2))
          | (go_at_call 75; ((with_reducible refine (HShr.out _ _ hx2).mono ?_); rintro e wc ⟨x3, rfl, hx3, hB3⟩; have hx1c := U.below hx1b hB3)))
      have HF : Hid (∃ x y, Ending.returned (.tuple #[x1, x3]) = .returned (.tuple #[x, y]) ∧ Un wc x q ∧ Un wc y r) := ⟨_, _, rfl, hx1c, hx3⟩
      have hEF := ((hE.drew.below hB1).below hB2).below hB3
      clear hx1 hx2 hx3 hx1b hx1c hB1 hB2 hB3 hu1 hu2 HU1 HU2 HShr hE
      go_wp2
      go_ret2
      exact ⟨HF.out, hEF⟩
    | succ j =>
      obtain rfl : z = (j : Int) := by omega
      obtain ⟨hn1e, hkm, hk1, hn1, -, -⟩ := HNN.out
      obtain ⟨p1, p2, p3, p4⟩ := wd_part HO.out (by omega) HLT.out
      have hoa1 : Ow wr w.heap.size (.slice (some ⟨gu, 0, none⟩) m m) (Sg (o.take j) ((o.drop j).take (n + 1)) ((o.drop j).drop (n + 1))) := by rw [← sg_cut]; exact hoa
      have hV0 : V gu wr (.slice (some ⟨gv, 0, none⟩) n n) vs := hov.toV HXV.out gu hne1
      have hDig := Lib.hid (digit_calls wr gu w.heap.size m m j (m - j) _ _ _ vs _ hoa1 (fun x hx => HO.out.xo x (List.mem_of_mem_drop (List.mem_of_mem_take hx))) p4 n n1 hn1e p1 hlv (by omega) (by omega) hV0 HTP.out (by rw [HWV.out]; exact p2))
      have i1 : (j : Int) + (n : Int) + 1 ≤ (m : Int) := by omega
      have i2 : (j : Int) ≤ (j : Int) + (n : Int) + 1 := by omega
      have i3 : j ≤ m := by omega
      have i4 : j + n + 1 - j = n + 1 := by omega
      have i5 : ((j : Int) + (n : Int) + 1).toNat = j + n + 1 := by omega
      have i6 : j < k := by omega
      have i7 : j + 1 + n ≤ m := by omega
      clear hn1e hkm hk1 hn1 p1 p2 p3 p4 hoa1 hV0 hoa hz
      go_wp2_with (fail)
      refine hDig.out.mono ?_
      rintro e w7 ⟨⟨d, s', rfl, hd, hsl, hsx, hdm, hdv, hoa2⟩, hB⟩
      have HSN : Hid (WdI V0 A0 n m j (Sg (o.take j) s' ((o.drop j).drop (n + 1))) (ql.set j d)) := HO.out.step i7 HLT.out d (wal s') s' hsl hsx hd (by rw [← HWV.out]; exact hdm) rfl (by rw [← HWV.out]; exact hdv)
      have hq2 := hoq.but hB (show gq ≠ gu by omega)
      have hov2 := hov.but hB (show gv ≠ gu by omega)
      have hf := hq2.frozen j
      have hcz := hq2.cell (j := j) i6
      have hq3 := hq2.set_ j d
      have hBq : But gq w7 (w7.setCell ⟨gq, j, none⟩ (.int .u64 (d : Nat))) := (But.refl gq w7).setCell j _
      have hoa3 := hoa2.but hBq (show gu ≠ gq by omega)
      have hov3 := hov2.but hBq (show gv ≠ gq by omega)
      have hgq := hq2.block.1
      have hE3 := (hE.but hB hgu).setCell (p := ⟨gq, j, none⟩) hgq (.int .u64 (d : Nat))
      clear hDig hsl hsx hdm hdv hoa2 hB hq2 hov2 hBq hoq hov hE HO hd
      go_wp2
      go_roundw
      case rel => exact ⟨j, _, _, _, by omega, rfl, rfl, HSN, hoa3, hq3, hov3, hE3⟩
      case measure => simp [intOf]
end Go.Proofs.YtigdflfhepelaaaGreatDoor
/- Powers; live questions. -/
namespace Go.Proofs.YtigdflfhepelaaaGreatDoor
open Go.RowKit
set_option linter.unusedVariables false
set_option maxHeartbeats 400000

theorem pow_limbs {a q e n : Nat} (ha : a < LB ^ q) (he : e ≤ n) : (limbs (a ^ e)).length ≤ q * n + 1 := by
  refine len_of ?_
  have h1 : a ^ e ≤ (LB ^ q) ^ e := Nat.pow_le_pow_left (Nat.le_of_lt ha) e
  rw [← Nat.pow_mul] at h1
  have h2 : LB ^ (q * e) ≤ LB ^ (q * n) := Nat.pow_le_pow_right (by decide) (Nat.mul_le_mul_left _ he)
  have h3 : LB ^ (q * n + 1) = LB ^ (q * n) * LB := Nat.pow_succ _ _
  have h4 : 0 < LB ^ (q * n) := Nat.pow_pos (by decide)
  rw [h3]
  unfold LB at *
  omega
theorem i64_and1 (v : Nat) (h : v < 9223372036854775808) : bits .and .i64 (v : Int) 1 = ((v % 2 : Nat) : Int) := by
  have e1 : (BitVec.ofInt 64 1).toNat = 2 ^ 1 - 1 := by decide
  have key : (BitVec.ofInt 64 (v : Int) &&& BitVec.ofInt 64 1).toNat = v % 2 := by
    rw [BitVec.toNat_and, e1, Nat.and_two_pow_sub_one_eq_mod, BitVec.toNat_ofInt]; omega
  show IntKind.i64.wrap ((BitVec.ofInt 64 (v : Int) &&& BitVec.ofInt 64 1).toNat : Nat) = _
  rw [key, IntKind.wrap_i64]
  omega
theorem limbs_small (x : Nat) (h0 : x ≠ 0) (h : x < 4294967296) : limbs x = [x] := by
  rw [limbs_pos h0, Nat.mod_eq_of_lt h, Nat.div_eq_of_lt h, limbs_zero]
theorem pow_half (a n i : Nat) : a ^ (n / 2 ^ i) = a ^ (n / 2 ^ (i + 1)) * a ^ (n / 2 ^ (i + 1)) * (if n / 2 ^ i % 2 = 1 then a else 1) := by
  have e : n / 2 ^ (i + 1) = n / 2 ^ i / 2 := by rw [Nat.pow_succ, Nat.div_div_eq_div_mul]
  rw [e, ← Nat.pow_add]
  split
  · rw [← Nat.pow_succ]; congr 1; omega
  · rw [Nat.mul_one]; congr 1; omega

set_option maxRecDepth 100000 in
set_option maxHeartbeats 4000000 in
theorem pow_B (w : World) (hg : Gl w) (va : Value) (a q n : Nat) (hu : Un w va a) (ha : a < LB ^ q) (hq : q * n ≤ 380) (hq2 : q ≤ 390) (hn : n ≤ 1000) (k : Nat) (hk : a ^ n = k) :
    Calls Tryz.prog 48 #[va, .int .i64 (n : Nat)] w fun e w' => ∃ u, e = .returned u ∧ Un w' u k ∧ Ext w w' := by
  subst hk
  have hal : (limbs a).length ≤ 398 := Nat.le_trans (len_of ha) (by omega)
  have HAL : Hid (∀ x, x = a → (limbs x).length ≤ 398) := fun x e => by rw [e]; exact hal
  have hPl := Lib.hid (fun e (he : e ≤ n) => Nat.le_trans (pow_limbs (e := e) ha he) (show q * n + 1 ≤ 398 by omega))
  have hHF := Lib.hid (pow_half a n)
  have hlen := Lib.hid (fun W => len_calls W n (by omega))
  have hbl : n < 2 ^ blen n := lt_pow_blen n
  have hb20 : blen n ≤ 20 := blen_le_of_lt (Nat.lt_of_le_of_lt hn (by decide))
  obtain ⟨L, hL⟩ : ∃ L, blen n = L := ⟨_, rfl⟩
  rw [hL] at hlen hbl hb20
  have hz0 : Hid (n / 2 ^ L = 0) := Nat.div_eq_of_lt hbl
  obtain ⟨A, ca, rfl, hca⟩ := U.shape (U.asUn hu)
  have hmax1 : (if (n : Int) < 0 then (0 : Int) else (n : Int)) = (n : Int) := by split <;> omega
  have hmax2 : max (n : Int) 0 = (n : Int) := by omega
  have hmax3 : (if (0 : Int) < (n : Int) then (n : Int) else 0) = (n : Int) := by split <;> omega
  have hmax4 : (if 0 < n then (n : Int) else 0) = (n : Int) := by split <;> omega
  have hnw : IntKind.u64.wrap (n : Int) = (n : Int) := by rw [IntKind.wrap_u64]; omega
  have hnm : (n : Int) % 18446744073709551616 = (n : Int) := by omega
  have hE0 := (Ext.refl w).alloc (.cells #[.int .u32 1] 46)
  have hone : Un (w.alloc (.cells #[.int .u32 1] 46)) (.slice (some ⟨w.heap.size, 0, none⟩) 1 1) 1 := by
    have := U_lit w [1] (by simp) (by simp)
    rw [Un, limbs_small 1 (by decide) (by decide)]
    exact this
  clear hL hbl ha
  go_enter Tryz.func48, Tryz.ntmps48
  go_wp2_with (fail)
  refine (hlen.out _).mono ?_
  rintro e w1 ⟨rfl, rfl⟩
  generalize (w.alloc (.cells #[.int .u32 1] 46)) = w1 at *
  have hu1 : Un w1 (.slice A (limbs a).length ca) a := U.below (U.asUn hu) hE0
  have hg1 : Gl w1 := hg.ext hE0
  generalize (limbs a).length = la at *
  clear hu hg
  go_wp2
  go_loopw [6, 5] (fun t s wr => ∃ (j : Nat), j ≤ L ∧ t = .int .i64 ((j : Int) - 1) ∧ Un wr s (a ^ (n / 2 ^ j)) ∧ Un wr (.slice A la ca) a ∧ Gl wr ∧ Ext w wr) (fun t _ _ => ((intOf t) + 1).toNat)
  case atStart => exact ⟨L, Nat.le_refl _, rfl, by rw [hz0.out, Nat.pow_zero]; exact hone, hu1, hg1, hE0⟩
  case round =>
    clear hone hu1 hg1 hE0
    obtain ⟨j, hj, rfl, hz, hua, hg, hE⟩ := hrel
    rcases j with _ | i
    · have hd : decide ((0 : Int) ≤ ((0 : Nat) : Int) - 1) = false := by decide
      obtain ⟨A2, c2, rfl, hcc⟩ := U.shape (U.asUn hz)
      have HF : Hid (∃ u', Ending.returned (.slice A2 (limbs (a ^ (n / 2 ^ 0))).length c2) = .returned u' ∧ Un wr u' (a ^ n) ∧ Ext w wr) := ⟨_, rfl, by rw [Nat.pow_zero, Nat.div_one] at hz ⊢; exact hz, hE⟩
      clear hz hE
      go_wp2
      go_ret
      exact HF.out
    · have hi1 : ((i + 1 : Nat) : Int) - 1 = (i : Int) := by omega
      rw [hi1]
      obtain ⟨A2, c2, rfl, hcc⟩ := U.shape (U.asUn hz)
      have hle : n / 2 ^ (i + 1) ≤ n := Nat.div_le_self _ _
      have hle2 : n / 2 ^ i ≤ n := Nat.div_le_self _ _
      obtain ⟨v, hv⟩ : ∃ v, n / 2 ^ i = v := ⟨_, rfl⟩
      obtain ⟨p, hp⟩ : ∃ p, n / 2 ^ (i + 1) = p := ⟨_, rfl⟩
      have hhf := hHF.out i
      rw [hv, hp] at hhf
      rw [hp] at hz hle ⊢
      rw [hv] at hle2
      have hvi : (n : Int) / 2 ^ i = (v : Int) := by rw [← hv, Int.natCast_ediv, Int.natCast_pow]; rfl
      have hand := i64_and1 v (by omega)
      have hpp : (limbs (a ^ p * a ^ p)).length ≤ 398 := by
        rw [← Nat.pow_add]
        refine hPl.out _ ?_
        have : n / 2 ^ (i + 1) = n / 2 ^ i / 2 := by rw [Nat.pow_succ, Nat.div_div_eq_div_mul]
        rw [hp, hv] at this
        omega
      have hM := Lib.hid (mul_B wr _ _ (a ^ p) (a ^ p) _ hg hz hz (hPl.out p hle) (hPl.out p hle) rfl)
      have HV := Lib.hid hv
      generalize (limbs (a ^ p)).length = lz at *
      clear hz hp hv
      by_cases hb : v % 2 = 1
      · rw [hb] at hand
        rw [if_pos hb] at hhf
        have hhf2 := Lib.hid hhf
        have hbe : (bits .and .i64 (v : Int) 1 == 1) = true := by rw [hand]; rfl
        clear hb hhf hand
        go_wp2_with (fail)
        refine hM.out.mono ?_
        rintro e w2 ⟨u, rfl, hu2, hB⟩
        replace hua := U.below (U.asUn hua) hB
        replace hg := hg.ext hB
        replace hE := hE.below hB
        obtain ⟨A3, c3, rfl, hc3⟩ := U.shape (U.asUn hu2)
        have hM2 := Lib.hid (mul_B w2 _ _ (a ^ p * a ^ p) a _ hg hu2 hua hpp (HAL.out a rfl) rfl)
        clear hM hB hu2
        generalize (limbs (a ^ p * a ^ p)).length = lz2 at *
        go_wp2_with (fail)
        refine hM2.out.mono ?_
        rintro e w3 ⟨u, rfl, hu3, hB⟩
        replace hua := U.below hua hB
        replace hg := hg.ext hB
        replace hE := hE.below hB
        rw [← hhf2.out] at hu3
        obtain ⟨A4, c4, rfl, hc4⟩ := U.shape (U.asUn hu3)
        have HU : Hid (Un w3 (.slice A4 (limbs (a ^ v)).length c4) (a ^ (n / 2 ^ i))) := by rw [Hid, HV.out]; exact hu3
        generalize (limbs (a ^ v)).length = lz4 at *
        clear hM2 hB hu3 hhf2
        go_wp2
        go_roundw
        case rel => exact ⟨i, by omega, rfl, HU.out, hua, hg, hE⟩
        case measure => simp [intOf]
      · have hb0 : v % 2 = 0 := by omega
        rw [hb0] at hand
        rw [if_neg hb, Nat.mul_one] at hhf
        have hhf2 := Lib.hid hhf
        have hbe : (bits .and .i64 (v : Int) 1 == 1) = false := by rw [hand]; rfl
        clear hb hb0 hhf hand
        go_wp2_with (fail)
        refine hM.out.mono ?_
        rintro e w2 ⟨u, rfl, hu2, hB⟩
        replace hua := U.below (U.asUn hua) hB
        replace hg := hg.ext hB
        replace hE := hE.below hB
        rw [← hhf2.out] at hu2
        obtain ⟨A3, c3, rfl, hc3⟩ := U.shape (U.asUn hu2)
        have HU : Hid (Un w2 (.slice A3 (limbs (a ^ v)).length c3) (a ^ (n / 2 ^ i))) := by rw [Hid, HV.out]; exact hu2
        generalize (limbs (a ^ v)).length = lz4 at *
        clear hM hB hu2 hhf2
        go_wp2
        go_roundw
        case rel => exact ⟨i, by omega, rfl, HU.out, hua, hg, hE⟩
        case measure => simp [intOf]
end Go.Proofs.YtigdflfhepelaaaGreatDoor
/- Live questions, whose answers are fixed. -/
namespace Go.Proofs.YtigdflfhepelaaaGreatDoor
open Go.RowKit
set_option linter.unusedVariables false
set_option maxHeartbeats 400000

theorem Un_lit1 (w : World) (N : Nat) (hN : w.heap.size = N) (x : Nat) (h0 : x ≠ 0) (h : x < 4294967296) : Un (w.alloc (.cells #[.int .u32 (x : Nat)] 46)) (.slice (some ⟨N, 0, none⟩) 1 1) x := by
  subst hN
  have := U_lit w [x] (by simpa using h) (by simp)
  rw [Un, limbs_small x h0 h]
  exact this
theorem limbs_two (x y : Nat) (h0 : y ≠ 0) (hx : x < 4294967296) (hy : y < 4294967296) (n : Nat) (hn : x + 4294967296 * y = n) : limbs n = [x, y] := by
  rw [limbs_pos (by omega), show n % 4294967296 = x by omega, show n / 4294967296 = y by omega, limbs_small y h0 hy]
theorem Un_lit2 (w : World) (N : Nat) (hN : w.heap.size = N) (x y : Nat) (h0 : y ≠ 0) (hx : x < 4294967296) (hy : y < 4294967296) (n : Nat) (hn : x + 4294967296 * y = n) : Un (w.alloc (.cells #[.int .u32 (x : Nat), .int .u32 (y : Nat)] 46)) (.slice (some ⟨N, 0, none⟩) 2 2) n := by
  subst hN
  have := U_lit w [x, y] (by simp; exact ⟨hx, hy⟩) (by simp)
  rw [Un, limbs_two x y h0 hx hy n hn]
  exact this
theorem len1 {x : Nat} (h : x < 4294967296) : (limbs x).length ≤ 398 := Nat.le_trans (len_of (k := 1) (by unfold LB; omega)) (by decide)
theorem carry_B (w : World) (v : Value) (cs : List Nat) (hu : U3 w v cs) (hcs : ∀ x ∈ cs, x < 79228162514264337593543950336) (hl : cs.length ≤ 100000) (k : Nat) (hk : cval cs = k) :
    Calls Tryz.prog 95 #[v] w fun e w' => ∃ u, e = .returned u ∧ Un w' u k ∧ Ext w w' := by
  refine (carry_calls w v cs hu hcs hl).mono ?_
  rw [hk]
  rintro e w' ⟨⟨u, h1, h2⟩, h3⟩
  exact ⟨u, h1, h2, h3⟩

end Go.Proofs.YtigdflfhepelaaaGreatDoor
/- Division by school, and whatever goes to it. -/
namespace Go.Proofs.YtigdflfhepelaaaGreatDoor
open Go.RowKit
set_option linter.unusedVariables false
set_option maxHeartbeats 400000

theorem limbs_one {b : Nat} (h : (limbs b).length = 1) : b < 4294967296 ∧ b ≠ 0 ∧ lb (limbs b) 0 = b := by
  have h1 := lt_of_len_le (show (limbs b).length ≤ 1 by omega)
  rw [Nat.pow_one] at h1
  have h0 : b ≠ 0 := by
    intro e; rw [e, limbs_zero] at h; simp at h
  refine ⟨h1, h0, ?_⟩
  rw [lb_limbs, Nat.pow_zero, Nat.div_one, Nat.mod_eq_of_lt h1]
theorem limbs_nz {b : Nat} (h : b ≠ 0) : 0 < (limbs b).length := by
  rcases Nat.eq_zero_or_pos (limbs b).length with e | e
  · exact absurd (limbs_eq_nil.1 (List.length_eq_zero_iff.1 e)) h
  · exact e

/-- A division's answer. -/
def Dv (w w' : World) (e : Ending) (q r : Nat) : Prop := (∃ x y, e = .returned (.tuple #[x, y, .int .i64 0]) ∧ Un w' x q ∧ Un w' y r) ∧ Ext w w'
def Dz (w w' : World) (e : Ending) : Prop := e = .returned (.tuple #[.slice none 0 0, .slice none 0 0, .int .i64 3]) ∧ Ext w w'

set_option maxRecDepth 100000 in
set_option maxHeartbeats 8000000 in
theorem school_D (w : World) (va vb : Value) (a b q r : Nat) (ha : Un w va a) (hb : Un w vb b) (hla : (limbs a).length ≤ 1000) (hlb : (limbs b).length ≤ 1000) (h0 : b ≠ 0) (hq : a / b = q) (hr : a % b = r) :
    Calls Tryz.prog 52 #[va, vb] w fun e w' => Dv w w' e q r := by
  unfold Dv
  have hnz := limbs_nz h0
  obtain ⟨Ab, cb, rfl, hcb⟩ := U.shape (U.asUn hb)
  obtain ⟨L, hL⟩ : ∃ L, (limbs b).length = L := ⟨_, rfl⟩
  obtain ⟨k, hk⟩ : ∃ k, cmpI (a : Int) (b : Int) = k := ⟨_, rfl⟩
  have hCmp := Lib.hid (cmp_B w va _ a b ha hb k hk)
  have hb2 := hb
  rw [hL] at hnz hlb hb2 hCmp ⊢
  have hL0 : ((L : Int) == 0) = false := by rw [beq_eq_false_iff_ne]; omega
  have hL02 : ¬ L = 0 := by omega
  have hEw := Ext.refl w
  rcases Nat.lt_or_ge a b with hlt | hge
  · have hq0 : q = 0 := by rw [← hq]; exact Nat.div_eq_of_lt hlt
    have hr0 : r = a := by rw [← hr]; exact Nat.mod_eq_of_lt hlt
    have hk1 : k = -1 := by rw [← hk]; exact cmpI_lt (by omega)
    subst hq0 hr0 hk1
    clear hq hr hk hlt hb hb2 hL hcb hla hlb
    go_enter Tryz.func52, Tryz.ntmps52
    go_wp2_with (fail)
    refine hCmp.out.mono ?_
    rintro e w1 ⟨rfl, hB⟩
    replace ha := U.below (U.asUn ha) hB
    replace hEw := hEw.below hB
    have HF : Hid (∃ x y, Ending.returned (.tuple #[.slice none 0 0, va, .int .i64 0]) = .returned (.tuple #[x, y, .int .i64 0]) ∧ Un w1 x 0 ∧ Un w1 y r) := ⟨_, _, rfl, Un_nil _, ha⟩
    clear hB hCmp ha
    go_wp2
    go_ret3
    exact ⟨HF.out, hEw⟩
  · have hk1 : ¬ k < 0 := by
      rw [← hk]
      rcases Nat.lt_or_ge b a with h | h
      · rw [cmpI_gt (by omega)]; decide
      · rw [show a = b by omega, cmpI_eq]; decide
    have hk2 : decide (k < 0) = false := by rw [decide_eq_false_iff_not]; exact hk1
    by_cases h1 : L = 1
    · obtain ⟨b1, b2, b3⟩ := limbs_one (hL.trans h1)
      have hS := Lib.hid (fun W (h : Un W va a) => small_calls W va a b h (by omega) b1 h0 q r hq hr)
      have hL1 : ((L : Int) == 1) = true := by rw [beq_iff_eq]; omega
      obtain ⟨ad, rfl, hbk, hcell⟩ : ∃ ad, Ab = some ad ∧ ad.block < w.heap.size ∧ w.cell? ad = some (.int .u32 (b : Nat)) := by
        obtain ⟨A', c', hv, _, _, hr'⟩ := hb
        obtain ⟨ad, e1, e2, e3⟩ := hr' (by omega)
        injection hv with hv1
        have := e3 0 (by omega)
        rw [addr_add_zero, b3] at this
        exact ⟨ad, by rw [hv1, e1], e2, this⟩
      have hrb : r < 4294967296 := by rw [← hr]; exact Nat.lt_trans (Nat.mod_lt _ (by omega)) b1
      have HRB := Lib.hid hrb
      subst h1
      clear hq hr hk hge b1 b2 b3 hb hb2 hL hla hlb h0 hrb hL02
      go_enter Tryz.func52, Tryz.ntmps52
      go_wp2_with (fail)
      refine hCmp.out.mono ?_
      rintro e w1 ⟨rfl, hB⟩
      replace ha := U.below (U.asUn ha) hB
      replace hEw := hEw.below hB
      have hcell1 := (hB.cell (p := ad) hbk).trans hcell
      clear hB hCmp hcell
      go_wp2_with (fail)
      refine (hS.out _ ha).mono ?_
      rintro e w2 ⟨⟨x, rfl, hx⟩, hB⟩
      replace hEw := hEw.below hB
      have HU : Hid (U (w2.alloc (.cells #[.int .u32 (r : Nat)] 46)) (.slice (some ⟨w2.heap.size, 0, none⟩) 1 1) [r]) := U_lit w2 [r] (by simpa using HRB.out) (by simp)
      have HMK : Hid (∀ W v, U W v [r] → Calls Tryz.prog 63 #[v] W fun e w' => ∃ u, e = .returned u ∧ Un w' u r ∧ Ext W w') := fun W v h => make_B W v [r] h r (by simp [val])
      clear hB hS hcell1 ha
      go_wp2_with (fail)
      refine (HMK.out _ _ HU.out).mono ?_
      rintro e w3 ⟨y, rfl, hy, hB⟩
      have HF : Hid (∃ x' y', Ending.returned (.tuple #[x, y, .int .i64 0]) = .returned (.tuple #[x', y', .int .i64 0]) ∧ Un w3 x' q ∧ Un w3 y' r) := ⟨_, _, rfl, U.below (U.alloc (U.asUn hx) _) hB, hy⟩
      have hEF := (hEw.alloc _).below hB
      clear hx hy hB HU HMK hEw
      go_wp2
      go_ret3
      exact ⟨HF.out, hEF⟩
    · have hL1 : ((L : Int) == 1) = false := by rw [beq_eq_false_iff_ne]; omega
      have hW := Lib.hid (fun W (h : Un W va a) (h' : Un W (.slice Ab L cb) b) => words_calls W va _ a b q r h h' hla (by omega) (by omega) hq hr)
      clear hq hr hk hge hb hL hla hlb h0
      go_enter Tryz.func52, Tryz.ntmps52
      go_wp2_with (fail)
      refine hCmp.out.mono ?_
      rintro e w1 ⟨rfl, hB⟩
      replace ha := U.below (U.asUn ha) hB
      replace hb2 := U.below (U.asUn hb2) hB
      replace hEw := hEw.below hB
      clear hB hCmp
      go_wp2_with (fail)
      refine (hW.out _ ha hb2).mono ?_
      rintro e w2 ⟨⟨x, y, rfl, hx, hy⟩, hB⟩
      replace hEw := hEw.below hB
      have HF : Hid (∃ x' y', Ending.returned (.tuple #[x, y, .int .i64 0]) = .returned (.tuple #[x', y', .int .i64 0]) ∧ Un w2 x' q ∧ Un w2 y' r) := ⟨_, _, rfl, hx, hy⟩
      clear hx hy hB hW ha hb2
      go_wp2
      go_ret3
      exact ⟨HF.out, hEw⟩
theorem un_zero {w : World} {v : Value} (h : Un w v 0) : ∃ A c, v = .slice A 0 c := by
  obtain ⟨A, c, rfl, hc⟩ := U.shape (U.asUn h)
  exact ⟨A, c, by rw [limbs_zero]; rfl⟩
theorem school_Z (w : World) (va vb : Value) (hb : Un w vb 0) :
    Calls Tryz.prog 52 #[va, vb] w fun e w' => Dz w w' e := by
  unfold Dz
  obtain ⟨Ab, cb, rfl⟩ := un_zero hb
  have hEw := Ext.refl w
  clear hb
  go_enter Tryz.func52, Tryz.ntmps52
  go_wp2
  go_ret3
  exact ⟨rfl, hEw⟩

set_option maxRecDepth 100000 in
set_option maxHeartbeats 8000000 in
theorem divmod_D (w : World) (va vb : Value) (a b q r : Nat) (ha : Un w va a) (hb : Un w vb b) (hla : (limbs a).length ≤ 1000) (hlb : (limbs b).length ≤ 1000) (h0 : b ≠ 0) (hq : a / b = q) (hr : a % b = r) :
    Calls Tryz.prog 36 #[va, vb] w fun e w' => Dv w w' e q r := by
  have hS := Lib.hid (school_D w va vb a b q r ha hb hla hlb h0 hq hr)
  unfold Dv at *
  obtain ⟨Aa, ca, rfl, hca⟩ := U.shape (U.asUn ha)
  obtain ⟨Ab, cb, rfl, hcb⟩ := U.shape (U.asUn hb)
  clear ha hb hq hr h0
  generalize (limbs a).length = la at *
  generalize (limbs b).length = lb_ at *
  obtain ⟨d, hd⟩ : ∃ d : Int, (la : Int) - (lb_ : Int) = d := ⟨_, rfl⟩
  obtain ⟨mn, hmn⟩ : ∃ mn : Int, (if d < (lb_ : Int) then d else (lb_ : Int)) = mn := ⟨_, rfl⟩
  have hm1 : decide ((1600 : Int) ≤ mn) = false := by rw [decide_eq_false_iff_not]; split at hmn <;> omega
  have hm2 : ¬ (1600 : Int) ≤ mn := by split at hmn <;> omega
  have HA := Lib.hid hca
  clear hca hcb
  go_enter Tryz.func36, Tryz.ntmps36
  go_wp2_with (fail)
  refine hS.out.mono ?_
  rintro e w1 ⟨⟨x, y, rfl, hx, hy⟩, hB⟩
  have HF : Hid (∃ x' y', Ending.returned (.tuple #[x, y, .int .i64 0]) = .returned (.tuple #[x', y', .int .i64 0]) ∧ Un w1 x' q ∧ Un w1 y' r) := ⟨_, _, rfl, hx, hy⟩
  clear hx hy hS
  go_wp2
  go_ret3
  exact ⟨HF.out, hB⟩
theorem divmod_Z (w : World) (va vb : Value) (a : Nat) (ha : Un w va a) (hb : Un w vb 0) (hla : (limbs a).length ≤ 1000) :
    Calls Tryz.prog 36 #[va, vb] w fun e w' => Dz w w' e := by
  have hS := Lib.hid (school_Z w va vb hb)
  unfold Dz at *
  obtain ⟨Aa, ca, rfl, hca⟩ := U.shape (U.asUn ha)
  obtain ⟨Ab, cb, rfl⟩ := un_zero hb
  clear ha hb
  generalize (limbs a).length = la at *
  have hm1 : (if (la : Int) < 0 then (la : Int) else 0) = 0 := if_neg (by omega)
  go_enter Tryz.func36, Tryz.ntmps36
  go_wp2_with (fail)
  refine hS.out.mono ?_
  rintro e w1 ⟨rfl, hB⟩
  clear hS
  go_wp2
  go_ret3
  exact ⟨rfl, hB⟩

set_option maxRecDepth 100000 in
set_option maxHeartbeats 8000000 in
theorem ziegler_D (w : World) (va vb : Value) (a b q r : Nat) (ha : Un w va a) (hb : Un w vb b) (hla : (limbs a).length ≤ 1000) (hlb : (limbs b).length ≤ 700) (h0 : b ≠ 0) (hq : a / b = q) (hr : a % b = r) :
    Calls Tryz.prog 51 #[va, vb] w fun e w' => Dv w w' e q r := by
  have hS := Lib.hid (school_D w va vb a b q r ha hb hla (by omega) h0 hq hr)
  unfold Dv at *
  obtain ⟨Ab, cb, rfl, hcb⟩ := U.shape (U.asUn hb)
  clear ha hb hq hr h0
  generalize (limbs b).length = lb_ at *
  have hm1 : decide ((lb_ : Int) < 800) = true := by rw [decide_eq_true_iff]; omega
  clear hcb
  go_enter Tryz.func51, Tryz.ntmps51
  go_wp2_with (fail)
  refine hS.out.mono ?_
  rintro e w1 ⟨⟨x, y, rfl, hx, hy⟩, hB⟩
  have HF : Hid (∃ x' y', Ending.returned (.tuple #[x, y, .int .i64 0]) = .returned (.tuple #[x', y', .int .i64 0]) ∧ Un w1 x' q ∧ Un w1 y' r) := ⟨_, _, rfl, hx, hy⟩
  clear hx hy hS
  go_wp2
  go_ret3
  exact ⟨HF.out, hB⟩
theorem ziegler_Z (w : World) (va vb : Value) (hb : Un w vb 0) :
    Calls Tryz.prog 51 #[va, vb] w fun e w' => Dz w w' e := by
  have hS := Lib.hid (school_Z w va vb hb)
  unfold Dz at *
  obtain ⟨Ab, cb, rfl⟩ := un_zero hb
  clear hb
  go_enter Tryz.func51, Tryz.ntmps51
  go_wp2_with (fail)
  refine hS.out.mono ?_
  rintro e w1 ⟨rfl, hB⟩
  clear hS
  go_wp2
  go_ret3
  exact ⟨rfl, hB⟩
theorem mulN (w : World) (va vb : Value) (n m k : Nat) (ha : Un w va n) (hb : Un w vb m) (hn : (limbs n).length ≤ 398) (hm : (limbs m).length ≤ 398) (hk : n * m = k) :
    Calls Tryz.prog 47 #[va, vb] w fun e w' => ∃ u, e = .returned u ∧ Un w' u k ∧ Ext w w' := by
  refine (mul_calls' w va vb _ _ ha hb (by omega) (by omega) (by omega)).mono ?_
  rw [val_limbs, val_limbs, hk]
  rintro e w' ⟨⟨u, h1, h2⟩, h3⟩
  exact ⟨u, h1, h2, h3⟩
end Go.Proofs.YtigdflfhepelaaaGreatDoor
/- How near a reciprocal by steps comes, and the quotient by it. -/
namespace Go.Proofs.YtigdflfhepelaaaGreatDoor
open Go.RowKit
set_option linter.unusedVariables false
set_option maxHeartbeats 400000

theorem bl_cut2 (b O b2 R Y c : Nat) (hO : 0 < O) (hb : b / O + 1 = b2) (hOb : O ≤ b) (hRO : R * O ≤ b) (h : R * b2 ≤ Y) (hc : Y ≤ R * b2 + c * b2) : R * b ≤ Y * O ∧ Y * O ≤ R * b + (2 * c + 1) * b := by
  refine ⟨bl_cut b O b2 R Y hO hb h, ?_⟩
  have h1 : b2 * O ≤ b + O := by
    rw [← hb, Nat.add_mul, Nat.one_mul]
    have := Nat.div_mul_le_self b O
    omega
  have h2 : Y * O ≤ (R + c) * (b2 * O) := by
    have := Nat.mul_le_mul_right O hc
    rw [← Nat.add_mul, Nat.mul_assoc] at this
    exact this
  have h3 : (R + c) * (b2 * O) ≤ (R + c) * (b + O) := Nat.mul_le_mul_left _ h1
  have h4 : (R + c) * (b + O) = R * b + R * O + (c * b + c * O) := by rw [Nat.add_mul, Nat.mul_add, Nat.mul_add]
  have h5 : c * O ≤ c * b := Nat.mul_le_mul_left _ hOb
  have h6 : (2 * c + 1) * b = c * b + c * b + b := by rw [Nat.add_mul, Nat.one_mul, Nat.mul_assoc, Nat.two_mul]
  omega

/-- Of the divisor the first bits: what is so of them is so of it. -/
structure CutP (e b size k b' size' : Nat) : Prop where
  lo : 2 ^ (size' - 1) ≤ b'
  hi : b' ≤ 2 ^ (size' + e + 1)
  one : 1 ≤ size'
  le : size' ≤ size
  lek : size' ≤ k + 4
  back : ∀ R c, R * b' ≤ 2 ^ (size' + k) → 2 ^ (size' + k) ≤ R * b' + c * b' → R * b ≤ 2 ^ (size + k) ∧ 2 ^ (size + k) ≤ R * b + (2 * c + 1) * b
theorem cutp_same (e b size k : Nat) (h1 : 2 ^ (size - 1) ≤ b) (h2 : b ≤ 2 ^ (size + e)) (h3 : 1 ≤ size) (h4 : size ≤ k + 4) : CutP e b size k b size := by
  refine ⟨h1, Nat.le_trans h2 (Nat.pow_le_pow_right (by decide) (by omega)), h3, Nat.le_refl _, h4, fun R c a1 a2 => ⟨a1, Nat.le_trans a2 ?_⟩⟩
  have := Nat.mul_le_mul_right b (show c ≤ 2 * c + 1 by omega)
  omega
theorem cutp_cut (e b size k ov b2 : Nat) (h1 : 2 ^ (size - 1) ≤ b) (h2 : b ≤ 2 ^ (size + e)) (h3 : size = k + 4 + ov) (hb : b / 2 ^ ov + 1 = b2) : CutP e b size k b2 (k + 4) := by
  have hO : 0 < 2 ^ ov := Nat.two_pow_pos _
  have e1 : 2 ^ (size - 1) = 2 ^ (k + 3) * 2 ^ ov := by rw [← Nat.pow_add]; congr 1; omega
  have e2 : 2 ^ (k + 3) ≤ b / 2 ^ ov := (Nat.le_div_iff_mul_le hO).2 (by rw [← e1]; exact h1)
  have e3 : b / 2 ^ ov ≤ 2 ^ (k + 4 + e) := by
    refine Nat.div_le_of_le_mul ?_
    rw [← Nat.pow_add, show ov + (k + 4 + e) = size + e by omega]; exact h2
  refine ⟨by show 2 ^ (k + 3) ≤ b2; omega, ?_, by omega, by omega, Nat.le_refl _, fun R c a1 a2 => ?_⟩
  · have : 2 ^ (k + 4 + e + 1) = 2 ^ (k + 4 + e) * 2 := Nat.pow_succ ..
    have := Nat.two_pow_pos (k + 4 + e)
    omega
  · have f1 : 2 ^ (k + 3) ≤ b2 := by omega
    have f2 : R * 2 ^ (k + 3) ≤ 2 ^ (k + 1) * 2 ^ (k + 3) := by
      rw [← Nat.pow_add, show k + 1 + (k + 3) = k + 4 + k by omega]
      exact Nat.le_trans (Nat.mul_le_mul_left R f1) a1
    have f3 : R ≤ 2 ^ (k + 1) := Nat.le_of_mul_le_mul_right f2 (Nat.two_pow_pos _)
    have f4 : R * 2 ^ ov ≤ b := by
      refine Nat.le_trans (Nat.mul_le_mul_right _ f3) (Nat.le_trans ?_ h1)
      rw [← Nat.pow_add]; exact Nat.pow_le_pow_right (by decide) (by omega)
    have f5 : 2 ^ ov ≤ b := Nat.le_trans (Nat.pow_le_pow_right (by decide) (by omega)) h1
    have f6 := bl_cut2 b (2 ^ ov) b2 R (2 ^ (k + 4 + k)) c hO hb f5 f4 a1 a2
    rw [← Nat.pow_add, show k + 4 + k + ov = size + k by omega] at f6
    exact f6
theorem recip_le (e size k b R : Nat) (h1 : 2 ^ (size - 1) ≤ b) (h3 : 1 ≤ size) (h : R * b ≤ 2 ^ (size + k)) : R ≤ 2 ^ (k + 1) := by
  have f2 : R * 2 ^ (size - 1) ≤ 2 ^ (k + 1) * 2 ^ (size - 1) := by
    rw [← Nat.pow_add, show k + 1 + (size - 1) = size + k by omega]
    exact Nat.le_trans (Nat.mul_le_mul_left R h1) h
  exact Nat.le_of_mul_le_mul_right f2 (Nat.two_pow_pos _)

/-- A step: its answer comes as near. -/
theorem bl_step2 (b r S W X Z over : Nat) (hS : 0 < S) (hX : S * W = X) (hZ : Z * S = X * X) (hrb : r * b ≤ X) (hlow : X ≤ r * b + 3 * b) (hbS : 9 * b ≤ S) (ho : r * r * b / S + 1 = over) (hov : over ≤ 2 * (r * W)) :
    Z ≤ (2 * (r * W) - over) * b + 2 * b := by
  obtain ⟨R, hR⟩ : ∃ R, 2 * (r * W) - over = R := ⟨_, rfl⟩
  rw [hR]
  have h5 : R + over = 2 * (r * W) := by omega
  have h6 : R * S + over * S = 2 * (r * X) := by
    rw [← Nat.add_mul, h5, ← hX, Nat.mul_comm S W, Nat.mul_assoc, Nat.mul_assoc]
  have h4 : over * S ≤ r * r * b + S := by
    rw [← ho, Nat.add_mul, Nat.one_mul]
    have := Nat.div_mul_le_self (r * r * b) S
    omega
  have h7 : 2 * (r * X) ≤ R * S + r * r * b + S := by omega
  have h8 := Nat.mul_le_mul_right b h7
  have h9 : (R * S + r * r * b + S) * b = R * b * S + (r * b) * (r * b) + S * b := by
    rw [Nat.add_mul, Nat.add_mul, Nat.mul_right_comm R S b, Nat.mul_assoc r r b, Nat.mul_comm r (r * b), Nat.mul_assoc (r * b) r b]
  have h10 : 2 * (r * X) * b = 2 * (r * b * X) := by rw [Nat.mul_assoc, Nat.mul_right_comm r X b]
  rw [h9, h10] at h8
  obtain ⟨d, hd⟩ : ∃ d, X = r * b + d := ⟨X - r * b, by omega⟩
  have hd3 : d ≤ 3 * b := by omega
  have h11 : d * d ≤ S * b := by
    have a1 : d * d ≤ (3 * b) * (3 * b) := Nat.mul_le_mul hd3 hd3
    have a2 : (3 * b) * (3 * b) = 9 * b * b := by rw [Nat.mul_mul_mul_comm, Nat.mul_assoc 9 b b]
    have a3 := Nat.mul_le_mul_right b hbS
    omega
  have h12 : X * X + (r * b) * (r * b) = 2 * (r * b * X) + d * d := by
    rw [hd]
    generalize r * b = y
    have b1 : (y + d) * (y + d) = y * y + y * d + (y * d + d * d) := by rw [Nat.add_mul, Nat.mul_add, Nat.mul_add, Nat.mul_comm d y]
    have b2 : y * (y + d) = y * y + y * d := Nat.mul_add _ _ _
    omega
  have h13 : Z * S ≤ (R * b + 2 * b) * S := by
    rw [hZ, Nat.add_mul, Nat.mul_assoc 2 b S, Nat.mul_comm b S]
    omega
  exact Nat.le_of_mul_le_mul_right h13 hS

/-- The quotient by a reciprocal is near. -/
theorem nw_ge (a b S1 K1 R q c : Nat) (hS : 0 < S1) (hK : 0 < K1) (hSb : S1 ≤ b) (ha : a / S1 < K1) (hR : S1 * K1 ≤ R * b + c * b) (hq : a / S1 * R / K1 = q) : a < q * b + (c + 2) * b := by
  have h1 : a / S1 * R < (q + 1) * K1 := by
    rw [← hq, Nat.mul_comm _ K1]; exact Nat.lt_mul_div_succ _ hK
  have h2 : a / S1 * (S1 * K1) ≤ a / S1 * (R * b + c * b) := Nat.mul_le_mul_left _ hR
  have h3 : a / S1 * (R * b + c * b) = a / S1 * R * b + a / S1 * (c * b) := by rw [Nat.mul_add, Nat.mul_assoc]
  have h4 : a / S1 * R * b ≤ (q + 1) * K1 * b := Nat.mul_le_mul_right b (Nat.le_of_lt h1)
  have h5 : a / S1 * (c * b) ≤ K1 * (c * b) := Nat.mul_le_mul_right _ (Nat.le_of_lt ha)
  have h6 : a / S1 * S1 * K1 ≤ ((q + 1) * b + c * b) * K1 := by
    rw [Nat.add_mul, Nat.mul_right_comm (q + 1) b K1, Nat.mul_comm (c * b) K1, Nat.mul_assoc (a / S1) S1 K1]
    omega
  have h7 := Nat.le_of_mul_le_mul_right h6 hK
  have h8 : a < a / S1 * S1 + S1 := by
    have := Nat.lt_mul_div_succ a hS
    rw [Nat.mul_add, Nat.mul_one, Nat.mul_comm] at this
    exact this
  rw [Nat.add_mul, Nat.one_mul] at h7
  rw [Nat.add_mul c 2]
  omega
end Go.Proofs.YtigdflfhepelaaaGreatDoor
/- Division by a reciprocal. -/
namespace Go.Proofs.YtigdflfhepelaaaGreatDoor
open Go.RowKit
set_option linter.unusedVariables false
set_option maxHeartbeats 400000

theorem len_two {n c : Nat} (h : n < 2 ^ (32 * c)) : (limbs n).length ≤ c := len_le_of_lt (by rw [lb_two]; exact h)
theorem len_two_le {n m : Nat} (c : Nat) (h : n ≤ 2 ^ m) (hm : m < 32 * c) : (limbs n).length ≤ c := len_two (Nat.lt_of_le_of_lt h (Nat.pow_lt_pow_right (by decide) hm))
/-- What is left, and how often the divisor was taken. -/
theorem mend_math (a b q0 R more q r : Nat) (h : R + (q0 + more) * b = a) (hlt : a < q0 * b + 1152921504606846976 * b) (hb : 0 < b) (hq : a / b = q) (hr : a % b = r) : more < 1152921504606846976 ∧ (R < b → q0 + more = q ∧ R = r) := by
  refine ⟨?_, fun hR => ?_⟩
  · rw [Nat.add_mul] at h
    have : more * b < 1152921504606846976 * b := by omega
    exact Nat.lt_of_mul_lt_mul_right this
  · obtain ⟨h1, h2⟩ := dv_done b a (q0 + more) R (by omega) hR
    exact ⟨by rw [← h1, hq], by rw [← h2, hr]⟩

end Go.Proofs.YtigdflfhepelaaaGreatDoor
/- Reciprocals. -/
namespace Go.Proofs.YtigdflfhepelaaaGreatDoor
open Go.RowKit
set_option linter.unusedVariables false
set_option maxHeartbeats 400000

theorem pow_lit (w : World) : Un (w.alloc (.cells #[.int .u32 1] 46)) (.slice (some ⟨w.heap.size, 0, none⟩) 1 1) 1 := Un_lit1 w _ rfl 1 (by decide) (by decide)
theorem one_mul_pow (k : Nat) : 1 * 2 ^ k = 2 ^ k := Nat.one_mul _

theorem len_1 : (limbs 1).length ≤ 1000000000 := Nat.le_trans (len1 (by decide)) (by decide)
/-- A reciprocal's answer, c units below at most. -/
def Rc (c : Nat) (w w' : World) (e : Ending) (b size k : Nat) : Prop := ∃ u R, e = .returned u ∧ Un w' u R ∧ (R * b ≤ 2 ^ (size + k) ∧ 2 ^ (size + k) ≤ R * b + c * b) ∧ Ext w w'

end Go.Proofs.YtigdflfhepelaaaGreatDoor
/- Reciprocals by a step; Newton's division; reciprocals told. -/
namespace Go.Proofs.YtigdflfhepelaaaGreatDoor
open Go.RowKit
set_option linter.unusedVariables false
set_option maxHeartbeats 400000

theorem mul_two {a b m n : Nat} (ha : a ≤ 2 ^ m) (hb : b ≤ 2 ^ n) : a * b ≤ 2 ^ (m + n) := by
  rw [Nat.pow_add]; exact Nat.mul_le_mul ha hb
/-- The numbers of a step. -/
theorem below_math (b size k h r : Nat) (h1 : 2 ^ (size - 1) ≤ b) (h2 : b ≤ 2 ^ (size + 1)) (h3 : 1 ≤ size) (h4 : size ≤ k + 4) (hk1 : 2000 ≤ k) (hk2 : k < 2990) (hh : k / 2 + 4 = h)
    (ha : r * b ≤ 2 ^ (size + h)) (hb : 2 ^ (size + h) ≤ r * b + 3 * b) :
    h < 2000 ∧ (limbs b).length ≤ 100 ∧ (limbs r).length ≤ 100 ∧ (limbs (r * r)).length ≤ 200 ∧ (limbs (r * r * b)).length ≤ 300 ∧ (limbs (r * 2 ^ (k - h + 1))).length ≤ 200 ∧
    r * r * b / 2 ^ (size + 2 * h - k) + 1 ≤ r * 2 ^ (k - h + 1) ∧ (r * 2 ^ (k - h + 1) - (r * r * b / 2 ^ (size + 2 * h - k) + 1)) * b ≤ 2 ^ (size + k) ∧ 2 ^ (size + k) ≤ (r * 2 ^ (k - h + 1) - (r * r * b / 2 ^ (size + 2 * h - k) + 1)) * b + 2 * b := by
  have hr := recip_le 0 size h b r h1 h3 ha
  have e0 : r * 2 ^ (k - h + 1) = 2 * (r * 2 ^ (k - h)) := by rw [Nat.pow_succ, ← Nat.mul_assoc, Nat.mul_comm _ 2]
  have eX : 2 ^ (size + 2 * h - k) * 2 ^ (k - h) = 2 ^ (size + h) := by rw [← Nat.pow_add]; congr 1; omega
  have eZ : 2 ^ (size + k) * 2 ^ (size + 2 * h - k) = 2 ^ (size + h) * 2 ^ (size + h) := by rw [← Nat.pow_add, ← Nat.pow_add]; congr 1; omega
  have hS := Nat.two_pow_pos (size + 2 * h - k)
  have hb0 : 0 < b := Nat.lt_of_lt_of_le (Nat.two_pow_pos _) h1
  have hr1 : 1 ≤ r := by
    rcases Nat.eq_zero_or_pos r with e | e
    · rw [e, Nat.zero_mul, Nat.zero_add] at hb
      have a1 : 3 * b ≤ 2 ^ 2 * 2 ^ (size + 1) := Nat.mul_le_mul (by decide) h2
      rw [← Nat.pow_add] at a1
      have a2 : 2 ^ (2 + (size + 1)) < 2 ^ (size + h) := Nat.pow_lt_pow_right (by decide) (by omega)
      omega
    · exact e
  have hbS : 9 * b ≤ 2 ^ (size + 2 * h - k) := by
    have a1 : 9 * b ≤ 2 ^ 4 * 2 ^ (size + 1) := Nat.mul_le_mul (by decide) h2
    rw [← Nat.pow_add] at a1
    exact Nat.le_trans a1 (Nat.pow_le_pow_right (by decide) (by omega))
  obtain ⟨o1, o2, o3⟩ := bl_step b r (2 ^ (size + 2 * h - k)) (2 ^ (k - h)) (2 ^ (size + h)) (2 ^ (size + k)) _ hS eX eZ hr1 (by
    have : 2 ^ 1 ≤ 2 ^ (k - h) := Nat.pow_le_pow_right (by decide) (by omega)
    exact this) ha rfl
  have o4 := bl_step2 b r (2 ^ (size + 2 * h - k)) (2 ^ (k - h)) (2 ^ (size + h)) (2 ^ (size + k)) _ hS eX eZ ha hb hbS rfl o1
  have hrr := mul_two hr hr
  have hrrb := mul_two hrr h2
  have htw := mul_two hr (Nat.le_refl (2 ^ (k - h + 1)))
  refine ⟨by omega, len_two_le 100 h2 (by omega), len_two_le 100 hr (by omega), len_two_le 200 hrr (by omega), len_two_le 300 hrrb (by omega), len_two_le 200 htw (by omega), ?_, ?_, ?_⟩
  · rw [e0]; exact o1
  · rw [e0]; exact o3
  · rw [e0]; exact o4

end Go.Proofs.YtigdflfhepelaaaGreatDoor
/- Division by a reciprocal, and reciprocals, told. -/
namespace Go.Proofs.YtigdflfhepelaaaGreatDoor
open Go.RowKit
set_option linter.unusedVariables false
set_option maxHeartbeats 400000

theorem newton_math (a b size ba k : Nat) (h0 : b ≠ 0) (hge : b ≤ a) (hla : (limbs a).length ≤ 60) (hs : blen b = size) (hba : blen a = ba) (hk : ba - size + 1 = k) :
    size ≤ ba ∧ 2 ^ (size - 1) ≤ b ∧ b ≤ 2 ^ (size + 1) ∧ 1 ≤ size ∧ ba ≤ 1920 ∧
    ∀ R, R * b ≤ 2 ^ (size + k) → 2 ^ (size + k) ≤ R * b + 3 * b → (limbs R).length ≤ 61 ∧ (limbs (a / 2 ^ (size - 1))).length ≤ 60 ∧ (limbs (a / 2 ^ (size - 1) * R)).length ≤ 200 ∧ (limbs (a / 2 ^ (size - 1) * R / 2 ^ (k + 1))).length ≤ 60 ∧
      a / 2 ^ (size - 1) * R / 2 ^ (k + 1) * b ≤ a ∧ a < a / 2 ^ (size - 1) * R / 2 ^ (k + 1) * b + 1152921504606846976 * b := by
  have e1 : size ≤ ba := by rw [← hs, ← hba]; exact blen_mono hge
  have e2 : 2 ^ (size - 1) ≤ b := by rw [← hs]; exact pow_blen_le h0
  have e3 : b ≤ 2 ^ (size + 1) := Nat.le_trans (Nat.le_of_lt (lt_pow_blen b)) (by rw [hs]; exact Nat.pow_le_pow_right (by decide) (by omega))
  have e4 : 1 ≤ size := by rw [← hs]; exact blen_pos h0
  have e5 : ba ≤ 1920 := by rw [← hba]; exact blen_len hla
  refine ⟨e1, e2, e3, e4, e5, fun R a1 a2 => ?_⟩
  have hS := Nat.two_pow_pos (size - 1)
  have hK := Nat.two_pow_pos (k + 1)
  have eSK : 2 ^ (size - 1) * 2 ^ (k + 1) = 2 ^ (size + k) := by rw [← Nat.pow_add]; congr 1; omega
  have hR := recip_le 0 size k b R e2 e4 a1
  have ha1 : a / 2 ^ (size - 1) < 2 ^ k := by
    refine Nat.div_lt_of_lt_mul ?_
    rw [← Nat.pow_add, show size - 1 + k = ba by omega, ← hba]
    exact lt_pow_blen a
  have hle := nw_le a b (2 ^ (size - 1)) (2 ^ (k + 1)) R _ hS hK (by rw [eSK]; exact a1) rfl
  have hge2 := nw_ge a b (2 ^ (size - 1)) (2 ^ (k + 1)) R _ 3 hS hK e2 (Nat.lt_of_lt_of_le ha1 (Nat.pow_le_pow_right (by decide) (by omega))) (by rw [eSK]; exact a2) rfl
  have hM := mul_two (Nat.le_of_lt ha1) hR
  refine ⟨len_two_le 61 hR (by omega), Nat.le_trans (len_mono (Nat.div_le_self _ _)) hla, len_two_le 200 hM (by omega), Nat.le_trans (len_mono (Nat.le_trans (Nat.le_mul_of_pos_right _ (by omega)) hle)) hla, hle, ?_⟩
  omega

end Go.Proofs.YtigdflfhepelaaaGreatDoor
/- The arguments of the laws of products. -/
namespace Go.Proofs.YtigdflfhepelaaaGreatDoor
open Go.ChangeShapes Go.WideShapes Go.ChangeAt Go.RowKit
set_option linter.unusedVariables false
set_option maxRecDepth 100000
set_option maxHeartbeats 400000

theorem okWide_arr' {P : Program} {k e : TypeId} {n : Nat} {W : World} (hu : P.underlying k = some (.array n e)) {r : Reach} {b0 : Nat} {v : Value} (h : Value.okWide P W r b0 k v) : ∃ xs : Array Value, v = .agg xs ∧ xs.size = P.cellsOf k := by
  simp only [Value.okWide, hu] at h
  obtain ⟨cs, h1, h2, _⟩ := h
  exact ⟨cs, h1, h2⟩
theorem trod_array2 {H : Type} {enc : TypeId × Value → H} {P : Program} {w : World} {base : Nat} {spare : Nat → Bool} {held : Bool} {t e : TypeId} {fuel : Nat} {c0 c1 : Value} {x : DataW H × List MemPlace} (ht : P.underlying t = some (.array 2 e)) (hce : P.cellsOf e = 1)
    (h : DataW.trod enc P w base spare held fuel t [c0, c1] = some x) :
    ∃ y0 y1 n, DataW.trod enc P w base spare held n e [c0] = some y0 ∧ DataW.trod enc P w base spare held n e [c1] = some y1 := by
  cases fuel with
  | zero => simp [DataW.trod] at h
  | succ n =>
    unfold DataW.trod at h
    rw [ht] at h
    have r2 : List.range 2 = [0, 1] := rfl
    simp [r2, hce] at h
    obtain ⟨_, h⟩ := h
    cases h0 : DataW.trod enc P w base spare held n e [c0] with
    | none => simp [h0] at h
    | some y0 =>
      cases h1 : DataW.trod enc P w base spare held n e [c1] with
      | none => simp [h0, h1] at h
      | some y1 => exact ⟨y0, y1, n, h0, h1⟩
def Bx2 (w : World) (B : Nat) (va vb : Value) : Prop := B < w.heap.size ∧ w.cell? ⟨B, 0, none⟩ = some va ∧ w.cell? ⟨B, 1, none⟩ = some vb
theorem Bx2.ext {w w' : World} {B : Nat} {va vb : Value} (h : Bx2 w B va vb) (hB : Ext w w') : Bx2 w' B va vb := by
  obtain ⟨h0, h1, h2⟩ := h
  have hc := fun o => hB.cell (p := ⟨B, o, none⟩) h0
  exact ⟨Nat.lt_of_lt_of_le h0 hB.size, by rw [hc]; exact h1, by rw [hc]; exact h2⟩
def Bx3 (w : World) (B : Nat) (va vb vc : Value) : Prop := B < w.heap.size ∧ w.cell? ⟨B, 0, none⟩ = some va ∧ w.cell? ⟨B, 1, none⟩ = some vb ∧ w.cell? ⟨B, 2, none⟩ = some vc
theorem Bx3.ext {w w' : World} {B : Nat} {va vb vc : Value} (h : Bx3 w B va vb vc) (hB : Ext w w') : Bx3 w' B va vb vc := by
  obtain ⟨h0, h1, h2, h3⟩ := h
  have hc := fun o => hB.cell (p := ⟨B, o, none⟩) h0
  exact ⟨Nat.lt_of_lt_of_le h0 hB.size, by rw [hc]; exact h1, by rw [hc]; exact h2, by rw [hc]; exact h3⟩
/-- At most k limbs. -/
def Ltl (n k : Nat) : Prop := n < LB ^ k
theorem cut_lt (xs : List Nat) (k : Nat) (hx : ∀ x ∈ xs, x < 4294967296) : Ltl (cutN xs k) k := by
  have h := val_lt (xs.take k) (fun x h => hx x (List.mem_of_mem_take h))
  refine Nat.lt_of_lt_of_le h (Nat.pow_le_pow_right (by decide) ?_)
  rw [List.length_take]; omega
theorem mul_lt {n m i j : Nat} (hn : Ltl n i) (hm : Ltl m j) : Ltl (n * m) (i + j) := by
  unfold Ltl at *
  rw [Nat.pow_add]; exact Nat.mul_lt_mul'' hn hm
theorem ladd_lt {n m i : Nat} (hn : Ltl n i) (hm : Ltl m i) : Ltl (n + m) (i + 1) := by
  unfold Ltl at *
  rw [Nat.pow_succ]; unfold LB at *; omega
theorem Ltl.le {n m i : Nat} (hn : Ltl n i) (h : m ≤ n) : Ltl m i := Nat.lt_of_le_of_lt h hn
theorem len398 {n k : Nat} (h : Ltl n k) (hk : k ≤ 398) : (limbs n).length ≤ 398 := Nat.le_trans (len_of h) hk
theorem lenG {n : Nat} (h : (limbs n).length ≤ 398) : (limbs n).length ≤ 1000000000 := Nat.le_trans h (by decide)
end Go.Proofs.YtigdflfhepelaaaGreatDoor
/- The document's rests and products. -/
namespace Go.Proofs.YtigdflfhepelaaaGreatDoor
open Go.RowKit
set_option linter.unusedVariables false
set_option maxHeartbeats 400000

theorem val_drop_one (xs : List Nat) (i : Nat) (h : i < xs.length) : val (xs.drop i) = lb xs i + 4294967296 * val (xs.drop (i + 1)) := by
  rw [List.drop_eq_getElem_cons h]
  simp only [val]
  congr 1
  unfold lb
  rw [List.getElem?_eq_getElem h]; rfl

end Go.Proofs.YtigdflfhepelaaaGreatDoor
/- Sums of products among the arguments of a law. -/
namespace Go.Proofs.YtigdflfhepelaaaGreatDoor
open Go.ChangeShapes Go.WideShapes Go.ChangeAt Go.RowKit
set_option linter.unusedVariables false
set_option maxRecDepth 100000
set_option maxHeartbeats 400000

theorem open_sums {H : Type} {enc : TypeId × Value → H} {W : World} {base : Nat} {v : Value} {d : DataW H} {ps : List MemPlace} (hval : Value.okWide Tryz.prog W .any base 124 v) (h : DataW.Trod enc Tryz.prog W 0 (fun _ => true) true 124 v d ps)
    (hlt : ∀ p ∈ ps, p.block < W.heap.size) : ∃ cs : List Nat, U3 W v cs ∧ ∀ x ∈ cs, x < 79228162514264337593543950336 := by
  obtain ⟨a0, len, cap, rfl⟩ := okWide_slice Tryz.underlying124 hval
  obtain ⟨fuel, hf⟩ := h
  rcases DataW.trod_slice Tryz.underlying124 hf with h0 | ⟨a, len', cap', elems, rest, n, _, hcs, _, hb, hl, hm, hlen, hel, hsp, hns⟩
  · have hcs := h0.1
    simp [Value.cells] at hcs
    obtain ⟨rfl, rfl, rfl⟩ := hcs
    exact ⟨[], U3.nil_ _ _ _, by simp⟩
  · simp [Value.cells] at hcs
    obtain ⟨rfl, rfl, rfl⟩ := hcs
    have hce : Tryz.prog.cellsOf 135 = 3 := by kernel_rfl
    have hc1 : Tryz.prog.cellsOf 46 = 1 := by kernel_rfl
    have each : ∀ i, i < len → ∃ S, S < 79228162514264337593543950336 ∧ W.cell? (a.add (i * 3)) = some (.int .u32 (S % 4294967296 : Nat)) ∧ W.cell? (a.add (i * 3 + 1)) = some (.int .u32 (S / 4294967296 % 4294967296 : Nat)) ∧ W.cell? (a.add (i * 3 + 2)) = some (.int .u32 (S / 18446744073709551616 % 4294967296 : Nat)) := by
      intro i hi
      have hi' := hel i hi
      rw [hce] at hi'
      rw [List.getElem?_eq_getElem (by rw [hlen]; exact hi)] at hi'
      obtain ⟨l, hl1, hl2⟩ := Option.bind_eq_some_iff.1 hi'
      obtain ⟨_, hll, hlc⟩ := World.cells?_some hl1
      match l, hll with
      | [c0, c1, c2], _ =>
        obtain ⟨y0, y1, y2, n', _, t0, t1, t2⟩ := trod_array3 Tryz.underlying135 hc1 hl2
        obtain ⟨z0, e0, _, w0⟩ := DataW.trod_int Tryz.underlying46 t0
        obtain ⟨z1, e1, _, w1⟩ := DataW.trod_int Tryz.underlying46 t1
        obtain ⟨z2, e2, _, w2⟩ := DataW.trod_int Tryz.underlying46 t2
        simp at e0 e1 e2
        subst e0 e1 e2
        have b0 := bounds_u32 w0
        have b1 := bounds_u32 w1
        have b2 := bounds_u32 w2
        obtain ⟨n0, rfl⟩ := Int.eq_ofNat_of_zero_le (show 0 ≤ z0 by omega)
        obtain ⟨n1, rfl⟩ := Int.eq_ofNat_of_zero_le (show 0 ≤ z1 by omega)
        obtain ⟨n2, rfl⟩ := Int.eq_ofNat_of_zero_le (show 0 ≤ z2 by omega)
        have k0 := hlc 0 (by decide)
        have k1 := hlc 1 (by decide)
        have k2 := hlc 2 (by decide)
        rw [addr_add_zero] at k0
        rw [addr_add_add] at k1 k2
        have s0 : n0 + 4294967296 * n1 + 18446744073709551616 * n2 < 79228162514264337593543950336 := by omega
        have s1 : (n0 + 4294967296 * n1 + 18446744073709551616 * n2) % 4294967296 = n0 := by omega
        have s2 : (n0 + 4294967296 * n1 + 18446744073709551616 * n2) / 4294967296 % 4294967296 = n1 := by omega
        have s3 : (n0 + 4294967296 * n1 + 18446744073709551616 * n2) / 18446744073709551616 % 4294967296 = n2 := by omega
        refine ⟨n0 + 4294967296 * n1 + 18446744073709551616 * n2, s0, ?_, ?_, ?_⟩
        · rw [s1, k0]; rfl
        · rw [s2, k1]; rfl
        · rw [s3, k2]; rfl
    have hex : ∃ f : Nat → Nat, ∀ i, i < len → f i < 79228162514264337593543950336 ∧ W.cell? (a.add (i * 3)) = some (.int .u32 (f i % 4294967296 : Nat)) ∧ W.cell? (a.add (i * 3 + 1)) = some (.int .u32 (f i / 4294967296 % 4294967296 : Nat)) ∧ W.cell? (a.add (i * 3 + 2)) = some (.int .u32 (f i / 18446744073709551616 % 4294967296 : Nat)) :=
      ⟨fun i => if h : i < len then Classical.choose (each i h) else 0, fun i h => by simp only [dif_pos h]; exact Classical.choose_spec (each i h)⟩
    obtain ⟨f, hfc⟩ := hex
    have hcl : ((List.range len).map f).length = len := by simp
    refine ⟨(List.range len).map f, ⟨some a, cap, by rw [hcl], ⟨by rw [hcl]; exact hl, by rw [hcl]; unfold maxLen at hm; omega⟩, fun h0 => ⟨a, rfl, ?_, fun j hj => ?_⟩⟩, fun x hx => ?_⟩
    · rw [hcl] at h0
      have hc := (hfc 0 h0).2.1
      rw [Nat.zero_mul, addr_add_zero] at hc
      unfold World.cell? at hc
      rcases Nat.lt_or_ge a.block W.heap.size with h | h
      · exact h
      · rw [Array.getElem?_eq_none h] at hc; cases hc
    · rw [hcl] at hj
      have hq : j / 3 < len := by omega
      have hlf := lb_fl ((List.range len).map f) (j / 3) (by rw [hcl]; exact hq)
      have hlm := lb_map len f (j / 3) hq
      rw [hlm] at hlf
      obtain ⟨_, g0, g1, g2⟩ := hfc (j / 3) hq
      rcases (show j = j / 3 * 3 ∨ j = j / 3 * 3 + 1 ∨ j = j / 3 * 3 + 2 by omega) with e | e | e
      · rw [e, hlf.1]; rw [← e] at g0 ⊢; exact g0
      · rw [e, hlf.2.1]; rw [← e] at g1 ⊢; exact g1
      · rw [e, hlf.2.2]; rw [← e] at g2 ⊢; exact g2
    · obtain ⟨i, hi, rfl⟩ := List.mem_map.1 hx
      exact (hfc i (List.mem_range.1 hi)).1
end Go.Proofs.YtigdflfhepelaaaGreatDoor
/- Parts of sums of products. -/
namespace Go.Proofs.YtigdflfhepelaaaGreatDoor
open Go.RowKit
set_option linter.unusedVariables false
set_option maxHeartbeats 400000

theorem cval_cut (xs : List Nat) (k : Nat) (h : k ≤ xs.length) : cval xs = cval (xs.take k) + LB ^ k * cval (xs.drop k) := by
  conv => lhs; rw [← List.take_append_drop k xs]
  rw [cval_append, List.length_take, Nat.min_eq_left h]
theorem cval_le (xs : List Nat) (h : ∀ x ∈ xs, x < 79228162514264337593543950336) : cval xs + LB ^ 3 ≤ LB ^ (xs.length + 3) := by
  induction xs with
  | nil => simp [cval]
  | cons x xs ih =>
    have h1 := ih fun y hy => h y (List.mem_cons_of_mem _ hy)
    have h2 := h x (List.mem_cons_self ..)
    have e : LB ^ ((x :: xs).length + 3) = LB * LB ^ (xs.length + 3) := by rw [List.length_cons, show xs.length + 1 + 3 = xs.length + 3 + 1 by omega, Nat.pow_succ, Nat.mul_comm]
    rw [e]
    have h3 := Nat.mul_le_mul_left LB h1
    rw [Nat.mul_add] at h3
    have e3 : LB ^ 3 = 79228162514264337593543950336 := by decide
    simp only [cval]
    rw [e3] at *
    unfold LB at *
    omega
theorem cval_ltl (xs : List Nat) (h : ∀ x ∈ xs, x < 79228162514264337593543950336) : Ltl (cval xs) (xs.length + 3) := by
  have := cval_le xs h
  have h3 : 0 < LB ^ 3 := by decide
  unfold Ltl
  omega
theorem fl_take (xs : List Nat) (k : Nat) (m : Nat) (hk : k ≤ xs.length) (hm : m < k * 3) : lb (fl (xs.take k)) m = lb (fl xs) m := by
  have h1 := lb_fl (xs.take k) (m / 3) (by rw [List.length_take]; omega)
  have h2 := lb_fl xs (m / 3) (by omega)
  rw [lb_take (by omega)] at h1
  rcases (show m = m / 3 * 3 ∨ m = m / 3 * 3 + 1 ∨ m = m / 3 * 3 + 2 by omega) with e | e | e
  · rw [e, h1.1, h2.1]
  · rw [e, h1.2.1, h2.2.1]
  · rw [e, h1.2.2, h2.2.2]
theorem fl_drop (xs : List Nat) (k : Nat) (m : Nat) (hm : k * 3 + m < xs.length * 3) : lb (fl (xs.drop k)) m = lb (fl xs) (k * 3 + m) := by
  have h1 := lb_fl (xs.drop k) (m / 3) (by rw [List.length_drop]; omega)
  have h2 := lb_fl xs (k + m / 3) (by omega)
  rw [lb_drop] at h1
  rcases (show m = m / 3 * 3 ∨ m = m / 3 * 3 + 1 ∨ m = m / 3 * 3 + 2 by omega) with e | e | e
  · rw [show k * 3 + m = (k + m / 3) * 3 by omega, h2.1]; rw [← h1.1]; congr 1
  · rw [show k * 3 + m = (k + m / 3) * 3 + 1 by omega, h2.2.1]; rw [← h1.2.1]; congr 1
  · rw [show k * 3 + m = (k + m / 3) * 3 + 2 by omega, h2.2.2]; rw [← h1.2.2]; congr 1
theorem U3.take_ {w : World} {A : Option Addr} {n c : Nat} {xs : List Nat} (h : U3 w (.slice A n c) xs) {k c' : Nat} (hk : k ≤ n) (hc' : k ≤ c') : U3 w (.slice A k c') (xs.take k) := by
  obtain ⟨A', c0, hv, hc, hr⟩ := h
  injection hv with h1 h2 h3
  subst h1 h2 h3
  have hlen : (xs.take k).length = k := by simp; omega
  refine ⟨_, c', by rw [hlen], by omega, fun h0 => ?_⟩
  obtain ⟨ad, hA, hb, hcell⟩ := hr (by omega)
  refine ⟨ad, hA, hb, fun j hj => ?_⟩
  rw [hlen] at hj
  rw [hcell j (by omega), fl_take xs k j hk hj]
theorem U3.drop_ {w : World} {ad : Addr} {n c : Nat} {xs : List Nat} (h : U3 w (.slice (some ad) n c) xs) {k m c' : Nat} (hk : k ≤ n) (hm : n - k = m) (hc' : m ≤ c') : U3 w (.slice (some (ad.add (k * 3))) m c') (xs.drop k) := by
  obtain ⟨A', c0, hv, hc, hr⟩ := h
  injection hv with h1 h2 h3
  subst h1 h2 h3
  have hlen : (xs.drop k).length = m := by simp; omega
  refine ⟨_, c', by rw [hlen], by omega, fun h0 => ?_⟩
  obtain ⟨ad', hA, hb, hcell⟩ := hr (by omega)
  injection hA with hA
  subst hA
  refine ⟨_, rfl, by rw [addr_add_block]; exact hb, fun j hj => ?_⟩
  rw [hlen] at hj
  rw [addr_add_add, hcell (k * 3 + j) (by omega), fl_drop xs k j (by omega)]
theorem U3.shape {w : World} {v : Value} {xs : List Nat} (h : U3 w v xs) : ∃ A c, v = .slice A xs.length c ∧ xs.length ≤ c := by
  obtain ⟨A, c, rfl, hc, _⟩ := h; exact ⟨A, c, rfl, hc.1⟩
end Go.Proofs.YtigdflfhepelaaaGreatDoor
/- The document's powers, and carried sums. -/
namespace Go.Proofs.YtigdflfhepelaaaGreatDoor
open Go.RowKit
set_option linter.unusedVariables false
set_option maxHeartbeats 400000

/-- The sums of the first i places are carried. -/
structure RcI (cs : List Nat) (m i : Nat) (o : List Nat) : Prop where
  len : o.length = m
  lt : ∀ x ∈ o, x < 4294967296
  val : val o = cval (cs.take i)
theorem rc_math (z t cr u s d : Nat) (hz : z < 4294967296) (ht : t < 4294967296) (hc : cr < 4294967296) (hu : z + cr + t = u) (hs : u % 4294967296 = s) (hd : u / 4294967296 = d) :
    z + t + cr = s + LB * d ∧ s < 4294967296 ∧ d < 4294967296 ∧ u < 18446744073709551616 := by
  unfold LB
  refine ⟨by omega, by omega, by omega, by omega⟩

end Go.Proofs.YtigdflfhepelaaaGreatDoor
/- The document's own Add. -/
namespace Go.Proofs.YtigdflfhepelaaaGreatDoor
open Go.RowKit
set_option linter.unusedVariables false
set_option maxHeartbeats 400000
attribute [local go_sem ↓] app_shut
attribute [local go_sem] run_append_tok

/-- The value of the first k places. -/
def pv (xs : List Nat) (k : Nat) : Nat := val ((List.range k).map fun j => lb xs j)
theorem pv_zero (xs : List Nat) : pv xs 0 = 0 := rfl
theorem pv_succ (xs : List Nat) (k : Nat) : pv xs (k + 1) = pv xs k + lb xs k * 4294967296 ^ k := by
  unfold pv
  rw [List.range_succ, List.map_append, val_append]
  simp only [List.map_cons, List.map_nil, val, Nat.mul_zero, Nat.add_zero, List.length_map, List.length_range]
  rw [Nat.mul_comm]
theorem pv_all (xs : List Nat) (L : Nat) (h : xs.length ≤ L) : pv xs L = val xs := range_lb xs L h
theorem pv_lt (xs : List Nat) (k : Nat) (h : ∀ x ∈ xs, x < 4294967296) : pv xs k < 4294967296 ^ k := by
  have := val_lt ((List.range k).map fun j => lb xs j) (by intro x hx; obtain ⟨j, _, rfl⟩ := List.mem_map.1 hx; exact lb_lt h j)
  simpa [pv] using this
theorem val_snoc (o : List Nat) (x : Nat) : val (o ++ [x]) = val o + x * 4294967296 ^ o.length := by
  rw [val_append]; simp only [val, Nat.mul_zero, Nat.add_zero]; rw [Nat.mul_comm]

/-- The limbs of a sum so far, and what is carried. -/
structure RAdd (xs ys : List Nat) (k : Nat) (o : List Nat) (c : Nat) : Prop where
  len : o.length = k
  lt : ∀ x ∈ o, x < 4294967296
  carry : c ≤ 1
  val_eq : val o + c * 4294967296 ^ k = pv xs k + pv ys k
theorem RAdd.start (xs ys : List Nat) : RAdd xs ys 0 [] 0 := ⟨rfl, by simp, by omega, rfl⟩
theorem RAdd.step {xs ys : List Nat} {k : Nat} {o : List Nat} {c : Nat} (h : RAdd xs ys k o c) (hx : ∀ x ∈ xs, x < 4294967296) (hy : ∀ x ∈ ys, x < 4294967296) :
    RAdd xs ys (k + 1) (o ++ [(lb xs k + lb ys k + c) % 4294967296]) ((lb xs k + lb ys k + c) / 4294967296) := by
  have h1 := lb_lt hx k
  have h2 := lb_lt hy k
  have h3 := h.carry
  refine ⟨by simp [h.len], snoc_lt h.lt (Nat.mod_lt _ (by decide)), by omega, ?_⟩
  rw [val_snoc, pv_succ, pv_succ, h.len, Nat.pow_succ]
  have e := h.val_eq
  generalize 4294967296 ^ k = B at *
  generalize lb xs k = p at *
  generalize lb ys k = q at *
  have e4 : (p + q + c) * B = (p + q + c) % 4294967296 * B + (p + q + c) / 4294967296 * 4294967296 * B := by
    conv => lhs; rw [show p + q + c = (p + q + c) % 4294967296 + (p + q + c) / 4294967296 * 4294967296 by omega]
    rw [Nat.add_mul]
  rw [Nat.add_mul, Nat.add_mul] at e4
  have e5 : (p + q + c) / 4294967296 * (B * 4294967296) = (p + q + c) / 4294967296 * 4294967296 * B := by
    rw [Nat.mul_comm B 4294967296, ← Nat.mul_assoc]
  rw [e5]
  omega
theorem RAdd.done {xs ys : List Nat} {k : Nat} {o : List Nat} {c : Nat} (h : RAdd xs ys (k + 1) o c) (hx : ∀ x ∈ xs, x < 4294967296) (hy : ∀ x ∈ ys, x < 4294967296) (h1 : xs.length ≤ k) (h2 : ys.length ≤ k) :
    val o = val xs + val ys := by
  have e := h.val_eq
  have a1 := pv_lt xs k hx
  have a2 := pv_lt ys k hy
  rw [pv_all xs _ (by omega)] at e a1
  rw [pv_all ys _ (by omega)] at e a2
  have h3 := h.carry
  rw [Nat.pow_succ] at e
  have hB : 0 < 4294967296 ^ k := Nat.pow_pos (by decide)
  generalize 4294967296 ^ k = B at *
  have : c = 0 ∨ c = 1 := by omega
  rcases this with rfl | rfl <;> omega

/-- One limb more. -/
theorem zpush_own {w0 w : World} (hB : Below w0.heap.size w0 w) {v : Value} {o : List Nat} (hown : Own w w0.heap.size v o) (z : Int) (x : Nat) (hz : z = (x : Int)) (hx : x < 4294967296) (hlen : o.length + 1 ≤ 35184372088832) :
    ∃ v' w', (Builtin.append_ #[22, 22] 22 #[v, .slice (some ⟨w.heap.size, 0, none⟩) 1 1]).run Tryz.prog (w.alloc (.cells #[.int .u32 z] 46)) = .ok v' w' ∧ Own w' w0.heap.size v' (o ++ [x]) ∧ Below w0.heap.size w0 w' := by
  subst hz
  have hu : U (w.alloc (.cells #[.int .u32 (x : Int)] 46)) (.slice (some ⟨w.heap.size, 0, none⟩) 1 1) [x] := U_lit w [x] (by simpa using hx) (by simp)
  have hB1 := hB.alloc hB.size (.cells #[.int .u32 (x : Int)] 46)
  obtain ⟨v', w', hrun, ho, hg⟩ := run_append_U _ w0.heap.size _ o (World.ownsRow.alloc hown _) _ _ hu (by simpa using hlen) hB1.size
  exact ⟨v', w', hrun, ho, hB1.grown hg hB1.size (fun j e => (World.ownsRow.lt hown j e).1)⟩

end Go.Proofs.YtigdflfhepelaaaGreatDoor
/- The document's own Sub. -/
namespace Go.Proofs.YtigdflfhepelaaaGreatDoor
open Go.RowKit
set_option linter.unusedVariables false
set_option maxHeartbeats 400000
attribute [local go_sem ↓] app_shut
attribute [local go_sem] run_append_tok

/-- The limbs of a difference so far, and what is borrowed. -/
structure RSub (xs ys : List Nat) (k : Nat) (o : List Nat) (c : Nat) : Prop where
  len : o.length = k
  lt : ∀ x ∈ o, x < 4294967296
  carry : c ≤ 1
  val_eq : val o + pv ys k = pv xs k + c * 4294967296 ^ k
theorem RSub.start (xs ys : List Nat) : RSub xs ys 0 [] 0 := ⟨rfl, by simp, by omega, rfl⟩
theorem RSub.step {xs ys : List Nat} {k : Nat} {o : List Nat} {c : Nat} (h : RSub xs ys k o c) (hx : ∀ x ∈ xs, x < 4294967296) (hy : ∀ x ∈ ys, x < 4294967296) :
    RSub xs ys (k + 1) (o ++ [(4294967296 + lb xs k - lb ys k - c) % 4294967296]) (1 - (4294967296 + lb xs k - lb ys k - c) / 4294967296) := by
  have h1 := lb_lt hx k
  have h2 := lb_lt hy k
  have h3 := h.carry
  refine ⟨by simp [h.len], snoc_lt h.lt (Nat.mod_lt _ (by decide)), by omega, ?_⟩
  rw [val_snoc, pv_succ, pv_succ, h.len, Nat.pow_succ]
  have e := h.val_eq
  generalize 4294967296 ^ k = B at *
  generalize lb xs k = p at *
  generalize lb ys k = q at *
  obtain ⟨d, hd⟩ : ∃ d, (4294967296 + p - q - c) % 4294967296 = d := ⟨_, rfl⟩
  obtain ⟨f, hf⟩ : ∃ f, 1 - (4294967296 + p - q - c) / 4294967296 = f := ⟨_, rfl⟩
  have e3 : d + q + c = p + f * 4294967296 := by omega
  rw [hd, hf]
  have e4 : (d + q + c) * B = (p + f * 4294967296) * B := by rw [e3]
  rw [Nat.add_mul, Nat.add_mul, Nat.add_mul] at e4
  have e5 : f * (B * 4294967296) = f * 4294967296 * B := by
    rw [Nat.mul_comm B 4294967296, ← Nat.mul_assoc]
  rw [e5]
  omega
theorem RSub.done {xs ys : List Nat} {o : List Nat} {c : Nat} (h : RSub xs ys xs.length o c) (hl : ys.length ≤ xs.length) (hge : val ys ≤ val xs) : val o = val xs - val ys := by
  have e := h.val_eq
  rw [pv_all xs _ (Nat.le_refl _), pv_all ys _ hl] at e
  have hlt := val_lt o h.lt
  rw [h.len] at hlt
  have hc := h.carry
  generalize 4294967296 ^ xs.length = B at *
  have : c = 0 ∨ c = 1 := by omega
  rcases this with rfl | rfl <;> omega

end Go.Proofs.YtigdflfhepelaaaGreatDoor
/- The document's own Shl. -/
namespace Go.Proofs.YtigdflfhepelaaaGreatDoor
open Go.RowKit
set_option linter.unusedVariables false
set_option maxHeartbeats 400000
attribute [local go_sem ↓] app_shut
attribute [local go_sem] run_append_tok

/-- The limbs of a number times P, behind q noughts, so far, and what is carried. -/
structure RShl (xs : List Nat) (q P k : Nat) (o : List Nat) (c : Nat) : Prop where
  len : o.length = q + k
  lt : ∀ x ∈ o, x < 4294967296
  carry : c < P
  val_eq : val o + c * 4294967296 ^ (q + k) = pv xs k * P * 4294967296 ^ q
theorem RShl.start (xs : List Nat) (q P : Nat) (hP : 0 < P) : RShl xs q P 0 (List.replicate q 0) 0 :=
  ⟨by simp, by intro x hx; have := List.eq_of_mem_replicate hx; omega, hP, by rw [val_replicate_zero, pv_zero]; simp⟩
theorem RShl.step {xs : List Nat} {q P k : Nat} {o : List Nat} {c : Nat} (h : RShl xs q P k o c) (hx : ∀ x ∈ xs, x < 4294967296) :
    RShl xs q P (k + 1) (o ++ [(lb xs k * P + c) % 4294967296]) ((lb xs k * P + c) / 4294967296) := by
  have h1 := lb_lt hx k
  have h3 := h.carry
  have h4 : lb xs k * P + c < 4294967296 * P := by
    have := Nat.mul_le_mul_right P (show lb xs k + 1 ≤ 4294967296 by omega)
    rw [Nat.add_mul] at this; omega
  refine ⟨by simp [h.len]; omega, snoc_lt h.lt (Nat.mod_lt _ (by decide)), by rw [Nat.div_lt_iff_lt_mul (by decide), Nat.mul_comm P]; exact h4, ?_⟩
  rw [val_snoc, pv_succ, h.len, ← Nat.add_assoc, Nat.pow_succ, Nat.pow_add 4294967296 q k]
  have e := h.val_eq
  rw [Nat.pow_add] at e
  generalize 4294967296 ^ k = B at *
  generalize 4294967296 ^ q = C at *
  obtain ⟨X, hX⟩ : ∃ X, lb xs k * P + c = X := ⟨_, rfl⟩
  have e3 : X = X % 4294967296 + X / 4294967296 * 4294967296 := by omega
  have e4 : X * (C * B) = X % 4294967296 * (C * B) + X / 4294967296 * (C * B * 4294967296) := by
    conv => lhs; rw [e3]
    rw [Nat.add_mul, Nat.mul_assoc (X / 4294967296), Nat.mul_comm 4294967296]
  have e5 : X * (C * B) = lb xs k * P * (C * B) + c * (C * B) := by rw [← hX, Nat.add_mul]
  have e6 : lb xs k * P * (C * B) = lb xs k * B * P * C := by
    rw [Nat.mul_comm C B, ← Nat.mul_assoc, Nat.mul_right_comm (lb xs k) P B]
  rw [hX, Nat.add_mul, Nat.add_mul]
  omega
theorem RShl.done {xs : List Nat} {q P k : Nat} {o : List Nat} {c : Nat} (h : RShl xs q P (k + 1) o c) (hx : ∀ x ∈ xs, x < 4294967296) (h1 : xs.length ≤ k) (hP : P < 4294967296) :
    val o = val xs * P * 4294967296 ^ q := by
  have e := h.val_eq
  have a1 := pv_lt xs k hx
  rw [pv_all xs _ (by omega)] at e a1
  have hc : c = 0 := by
    rcases Nat.eq_zero_or_pos c with h0 | h0
    · exact h0
    · exfalso
      have b1 : 4294967296 ^ (q + (k + 1)) ≤ c * 4294967296 ^ (q + (k + 1)) := Nat.le_mul_of_pos_left _ h0
      have b2 : val xs * P < 4294967296 ^ (k + 1) := by
        rw [Nat.pow_succ]
        exact Nat.mul_lt_mul'' a1 hP
      have b3 : val xs * P * 4294967296 ^ q < 4294967296 ^ (k + 1) * 4294967296 ^ q := Nat.mul_lt_mul_of_pos_right b2 (Nat.pow_pos (by decide))
      rw [← Nat.pow_add, Nat.add_comm (k + 1) q] at b3
      omega
  subst hc
  omega

end Go.Proofs.YtigdflfhepelaaaGreatDoor
/- The document's own Shr. -/
namespace Go.Proofs.YtigdflfhepelaaaGreatDoor
open Go.RowKit
set_option linter.unusedVariables false
set_option maxHeartbeats 400000
attribute [local go_sem ↓] app_shut
attribute [local go_sem] run_append_tok

theorem val_digits (o : List Nat) (N : Nat) (h : ∀ j, j < o.length → lb o j = N / 4294967296 ^ j % 4294967296) : val o = N % 4294967296 ^ o.length := by
  have key : ∀ j, j ≤ o.length → val (o.take j) = N % 4294967296 ^ j := by
    intro j
    induction j with
    | zero => intro _; simp [val, Nat.mod_one]
    | succ j ih =>
      intro hj
      rw [val_take_succ o j (by omega), ih (by omega), h j (by omega), Nat.mod_pow_succ, Nat.mul_comm]
  have := key o.length (Nat.le_refl _)
  rwa [List.take_length] at this

theorem shr_digit (n q S k : Nat) (hS : S < 32) :
    (lb (limbs n) (q + k) + 4294967296 * (lb (limbs n) (q + k + 1) % 2 ^ S)) / 2 ^ S % 4294967296 = n / 2 ^ (32 * q + S) / 4294967296 ^ k % 4294967296 := by
  rw [lb_limbs, lb_limbs]
  have e1 : n / 2 ^ (32 * q + S) / 4294967296 ^ k = n / 4294967296 ^ (q + k) / 2 ^ S := by
    rw [Nat.div_div_eq_div_mul, Nat.div_div_eq_div_mul, Nat.pow_add 2, ← pow32, Nat.pow_add 4294967296, Nat.mul_right_comm]
  have e2 : n / 4294967296 ^ (q + k + 1) = n / 4294967296 ^ (q + k) / 4294967296 := by
    rw [Nat.pow_succ, Nat.div_div_eq_div_mul]
  rw [e1, e2]
  generalize n / 4294967296 ^ (q + k) = V
  have hd : 2 ^ S ∣ 4294967296 := ⟨2 ^ (32 - S), by rw [← Nat.pow_add, show S + (32 - S) = 32 by omega]⟩
  rw [Nat.mod_mod_of_dvd _ hd]
  have hp : 0 < 2 ^ S := Nat.two_pow_pos S
  generalize 2 ^ S = P at *
  have e3 : V = V % 4294967296 + 4294967296 * (V / 4294967296 % P) + P * (4294967296 * (V / 4294967296 / P)) := by
    have a1 := Nat.div_add_mod V 4294967296
    have a2 := Nat.div_add_mod (V / 4294967296) P
    have a3 : 4294967296 * (V / 4294967296) = P * (4294967296 * (V / 4294967296 / P)) + 4294967296 * (V / 4294967296 % P) := by
      conv => lhs; rw [← a2]
      rw [Nat.mul_add, Nat.mul_left_comm]
    omega
  conv => rhs; rw [e3]
  rw [Nat.add_mul_div_left _ _ hp, Nat.add_mul_mod_self_left]

theorem shr_val (a b P : Nat) (ha : a < 4294967296) (hP0 : 0 < P) (hP : P < 4294967296) :
    (IntKind.u64.wrap ((IntKind.u64.wrap ((a : Int) + IntKind.u64.wrap (4294967296 * ((b : Int) % (P : Int))))).tdiv (P : Int))).tmod 4294967296 % 4294967296 = (((a + 4294967296 * (b % P)) / P % 4294967296 : Nat) : Int) := by
  have hr : b % P < P := Nat.mod_lt _ hP0
  rw [← Int.natCast_emod]
  generalize b % P = r at *
  rw [show IntKind.u64.wrap (4294967296 * (r : Int)) = 4294967296 * (r : Int) by rw [IntKind.wrap_u64]; omega]
  rw [show IntKind.u64.wrap ((a : Int) + 4294967296 * (r : Int)) = ((a + 4294967296 * r : Nat) : Int) by rw [IntKind.wrap_u64]; omega]
  have hX : a + 4294967296 * r < 18446744073709551616 := by omega
  generalize a + 4294967296 * r = X at *
  have hY : X / P < 18446744073709551616 := Nat.lt_of_le_of_lt (Nat.div_le_self _ _) hX
  rw [Int.tdiv_eq_ediv_of_nonneg (by omega), ← Int.natCast_ediv]
  generalize X / P = Y at *
  rw [IntKind.wrap_u64, Int.tmod_eq_emod_of_nonneg (by omega)]
  omega

end Go.Proofs.YtigdflfhepelaaaGreatDoor
/- The contracts of the document's own functions, in one form. -/
namespace Go.Proofs.YtigdflfhepelaaaGreatDoor
open Go.RowKit
set_option linter.unusedVariables false

end Go.Proofs.YtigdflfhepelaaaGreatDoor
/- The document's calls in the laws of division, and live questions, whose answers are fixed. -/
namespace Go.Proofs.YtigdflfhepelaaaGreatDoor
open Go.RowKit
set_option linter.unusedVariables false
set_option maxHeartbeats 400000

theorem rightB_limb {n : Nat} (h : (limbs n).length ≤ 65536) : rightB (limbs n) = true := by
  unfold rightB
  by_cases h0 : n = 0
  · subst h0; rw [limbs_zero]; rfl
  · have := limbs_last h0
    rw [decide_eq_true h, Bool.true_and, Bool.or_eq_true]
    right
    rw [bne_iff_ne]
    exact this
theorem Un_lit (w : World) (N : Nat) (hN : w.heap.size = N) (xs : List Nat) (n : Nat) (hx : ∀ x ∈ xs, x < 4294967296) (hm : xs.length ≤ 1000000) (hv : limbs n = xs) : Un (w.alloc (.cells (L32 xs).toArray 46)) (.slice (some ⟨N, 0, none⟩) xs.length xs.length) n := by
  rw [Un, hv]; exact U_lit2 w N hN xs hx hm
theorem lim3 : limbs 18446744073709551616 = [0, 0, 1] := by
  rw [limbs_pos (by decide), show 18446744073709551616 % 4294967296 = 0 from rfl, show 18446744073709551616 / 4294967296 = 4294967296 from rfl, limbs_two 0 1 (by decide) (by decide) (by decide) 4294967296 (by decide)]
theorem lim2a : limbs 4294967296 = [0, 1] := limbs_two 0 1 (by decide) (by decide) (by decide) _ (by decide)
theorem lim2b : limbs 4294967297 = [1, 1] := limbs_two 1 1 (by decide) (by decide) (by decide) _ (by decide)
theorem lim2c : limbs 1844674407370955161 = [2576980377, 429496729] := limbs_two 2576980377 429496729 (by decide) (by decide) (by decide) _ (by decide)
theorem lenc {n k c : Nat} (h : (limbs n).length ≤ k) (hk : k ≤ c) : (limbs n).length ≤ c := Nat.le_trans h hk
theorem len_3 : (limbs 18446744073709551616).length ≤ 3 := by rw [lim3]; decide
theorem len_2 : (limbs 4294967296).length ≤ 3 := by rw [lim2a]; decide
theorem len_s {n : Nat} (h0 : n ≠ 0) (h : n < 4294967296) : (limbs n).length ≤ 3 := by rw [limbs_small n h0 h]; simp
end Go.Proofs.YtigdflfhepelaaaGreatDoor
/- Live questions of the laws of division, whose answers are fixed. -/
namespace Go.Proofs.YtigdflfhepelaaaGreatDoor
open Go.RowKit
set_option linter.unusedVariables false
set_option maxHeartbeats 400000

end Go.Proofs.YtigdflfhepelaaaGreatDoor
/- A quotient and a rest that fit. -/
namespace Go.Proofs.YtigdflfhepelaaaGreatDoor
open Go.RowKit
set_option linter.unusedVariables false
set_option maxHeartbeats 400000

/-- A quotient and its rest. -/
theorem dm_all {a b q r k : Nat} (h0 : b ≠ 0) (hq : a / b = q) (hr : a % b = r) (hl : (limbs a).length ≤ k) : q * b + r = a ∧ r < b ∧ (limbs q).length ≤ k ∧ (limbs r).length ≤ k := by
  refine ⟨by rw [← hq, ← hr, Nat.mul_comm]; exact Nat.div_add_mod _ _, by rw [← hr]; exact Nat.mod_lt _ (by omega), ?_, ?_⟩
  · rw [← hq]; exact Nat.le_trans (len_mono (Nat.div_le_self _ _)) hl
  · rw [← hr]; exact Nat.le_trans (len_mono (Nat.mod_le _ _)) hl
end Go.Proofs.YtigdflfhepelaaaGreatDoor
/- Powers of small numbers: no row of the number theoretic transform is read. -/
namespace Go.Proofs.YtigdflfhepelaaaGreatDoor
open Go.RowKit
set_option linter.unusedVariables false
set_option maxHeartbeats 400000

theorem pow_limbsN {a q e n : Nat} (ha : a < LB ^ q) (he : e ≤ n) : (limbs (a ^ e)).length ≤ q * n + 1 := by
  refine len_of ?_
  have h1 : a ^ e ≤ (LB ^ q) ^ e := Nat.pow_le_pow_left (Nat.le_of_lt ha) e
  rw [← Nat.pow_mul] at h1
  have h2 : LB ^ (q * e) ≤ LB ^ (q * n) := Nat.pow_le_pow_right (by decide) (Nat.mul_le_mul_left _ he)
  have h3 : LB ^ (q * n + 1) = LB ^ (q * n) * LB := Nat.pow_succ _ _
  have h4 : 0 < LB ^ (q * n) := Nat.pow_pos (by decide)
  rw [h3]
  unfold LB at *
  omega
theorem i64_and1N (v : Nat) (h : v < 9223372036854775808) : bits .and .i64 (v : Int) 1 = ((v % 2 : Nat) : Int) := by
  have e1 : (BitVec.ofInt 64 1).toNat = 2 ^ 1 - 1 := by decide
  have key : (BitVec.ofInt 64 (v : Int) &&& BitVec.ofInt 64 1).toNat = v % 2 := by
    rw [BitVec.toNat_and, e1, Nat.and_two_pow_sub_one_eq_mod, BitVec.toNat_ofInt]; omega
  show IntKind.i64.wrap ((BitVec.ofInt 64 (v : Int) &&& BitVec.ofInt 64 1).toNat : Nat) = _
  rw [key, IntKind.wrap_i64]
  omega
theorem limbs_smallN (x : Nat) (h0 : x ≠ 0) (h : x < 4294967296) : limbs x = [x] := by
  rw [limbs_pos h0, Nat.mod_eq_of_lt h, Nat.div_eq_of_lt h, limbs_zero]
theorem un_one (w : World) (x : Nat) (h0 : x ≠ 0) (h : x < 4294967296) : Un (w.alloc (.cells #[.int .u32 (x : Nat)] 46)) (.slice (some ⟨w.heap.size, 0, none⟩) 1 1) x := by
  have := U_lit w [x] (by simpa using h) (by simp)
  rw [Un, limbs_smallN x h0 h]
  exact this

theorem pow_halfN (a n i : Nat) : a ^ (n / 2 ^ i) = a ^ (n / 2 ^ (i + 1)) * a ^ (n / 2 ^ (i + 1)) * (if n / 2 ^ i % 2 = 1 then a else 1) := by
  have e : n / 2 ^ (i + 1) = n / 2 ^ i / 2 := by rw [Nat.pow_succ, Nat.div_div_eq_div_mul]
  rw [e, ← Nat.pow_add]
  split
  · rw [← Nat.pow_succ]; congr 1; omega
  · rw [Nat.mul_one]; congr 1; omega

set_option maxRecDepth 100000 in
set_option maxHeartbeats 4000000 in
theorem powN (w : World) (va : Value) (a q n : Nat) (hu : Un w va a) (ha : a < LB ^ q) (hq : q * n ≤ 380) (hq2 : q ≤ 390) (hn : n ≤ 1000) (k : Nat) (hk : a ^ n = k) :
    Calls Tryz.prog 48 #[va, .int .i64 (n : Nat)] w fun e w' => ∃ u, e = .returned u ∧ Un w' u k ∧ Ext w w' := by
  subst hk
  have hal : (limbs a).length ≤ 398 := Nat.le_trans (len_of ha) (by omega)
  have HAL : Hid (∀ x, x = a → (limbs x).length ≤ 398) := fun x e => by rw [e]; exact hal
  have hPl := Lib.hid (fun e (he : e ≤ n) => Nat.le_trans (pow_limbsN (e := e) ha he) (show q * n + 1 ≤ 398 by omega))
  have hHF := Lib.hid (pow_halfN a n)
  have hlen := Lib.hid (fun W => len_calls W n (by omega))
  have hbl : n < 2 ^ blen n := lt_pow_blen n
  have hb20 : blen n ≤ 20 := blen_le_of_lt (Nat.lt_of_le_of_lt hn (by decide))
  obtain ⟨L, hL⟩ : ∃ L, blen n = L := ⟨_, rfl⟩
  rw [hL] at hlen hbl hb20
  have hz0 : Hid (n / 2 ^ L = 0) := Nat.div_eq_of_lt hbl
  obtain ⟨A, ca, rfl, hca⟩ := U.shape (U.asUn hu)
  have hmax1 : (if (n : Int) < 0 then (0 : Int) else (n : Int)) = (n : Int) := by split <;> omega
  have hmax2 : max (n : Int) 0 = (n : Int) := by omega
  have hmax3 : (if (0 : Int) < (n : Int) then (n : Int) else 0) = (n : Int) := by split <;> omega
  have hmax4 : (if 0 < n then (n : Int) else 0) = (n : Int) := by split <;> omega
  have hnw : IntKind.u64.wrap (n : Int) = (n : Int) := by rw [IntKind.wrap_u64]; omega
  have hnm : (n : Int) % 18446744073709551616 = (n : Int) := by omega
  have hE0 := (Ext.refl w).alloc (.cells #[.int .u32 1] 46)
  have hone : Un (w.alloc (.cells #[.int .u32 1] 46)) (.slice (some ⟨w.heap.size, 0, none⟩) 1 1) 1 := by
    have := U_lit w [1] (by simp) (by simp)
    rw [Un, limbs_smallN 1 (by decide) (by decide)]
    exact this
  clear hL hbl ha
  go_enter Tryz.func48, Tryz.ntmps48
  go_wp2_with (fail)
  refine (hlen.out _).mono ?_
  rintro e w1 ⟨rfl, rfl⟩
  generalize (w.alloc (.cells #[.int .u32 1] 46)) = w1 at *
  have hu1 : Un w1 (.slice A (limbs a).length ca) a := U.below (U.asUn hu) hE0
  generalize (limbs a).length = la at *
  clear hu
  go_wp2
  go_loopw [6, 5] (fun t s wr => ∃ (j : Nat), j ≤ L ∧ t = .int .i64 ((j : Int) - 1) ∧ Un wr s (a ^ (n / 2 ^ j)) ∧ Un wr (.slice A la ca) a ∧ Ext w wr) (fun t _ _ => ((intOf t) + 1).toNat)
  case atStart => exact ⟨L, Nat.le_refl _, rfl, by rw [hz0.out, Nat.pow_zero]; exact hone, hu1, hE0⟩
  case round =>
    clear hone hu1 hE0
    obtain ⟨j, hj, rfl, hz, hua, hE⟩ := hrel
    rcases j with _ | i
    · have hd : decide ((0 : Int) ≤ ((0 : Nat) : Int) - 1) = false := by decide
      obtain ⟨A2, c2, rfl, hcc⟩ := U.shape (U.asUn hz)
      have HF : Hid (∃ u', Ending.returned (.slice A2 (limbs (a ^ (n / 2 ^ 0))).length c2) = .returned u' ∧ Un wr u' (a ^ n) ∧ Ext w wr) := ⟨_, rfl, by rw [Nat.pow_zero, Nat.div_one] at hz ⊢; exact hz, hE⟩
      clear hz hE
      go_wp2
      go_ret
      exact HF.out
    · have hi1 : ((i + 1 : Nat) : Int) - 1 = (i : Int) := by omega
      rw [hi1]
      obtain ⟨A2, c2, rfl, hcc⟩ := U.shape (U.asUn hz)
      have hle : n / 2 ^ (i + 1) ≤ n := Nat.div_le_self _ _
      have hle2 : n / 2 ^ i ≤ n := Nat.div_le_self _ _
      obtain ⟨v, hv⟩ : ∃ v, n / 2 ^ i = v := ⟨_, rfl⟩
      obtain ⟨p, hp⟩ : ∃ p, n / 2 ^ (i + 1) = p := ⟨_, rfl⟩
      have hhf := hHF.out i
      rw [hv, hp] at hhf
      rw [hp] at hz hle ⊢
      rw [hv] at hle2
      have hvi : (n : Int) / 2 ^ i = (v : Int) := by rw [← hv, Int.natCast_ediv, Int.natCast_pow]; rfl
      have hand := i64_and1N v (by omega)
      have hpp : (limbs (a ^ p * a ^ p)).length ≤ 398 := by
        rw [← Nat.pow_add]
        refine hPl.out _ ?_
        have : n / 2 ^ (i + 1) = n / 2 ^ i / 2 := by rw [Nat.pow_succ, Nat.div_div_eq_div_mul]
        rw [hp, hv] at this
        omega
      have hM := Lib.hid (mulN wr _ _ (a ^ p) (a ^ p) _ hz hz (hPl.out p hle) (hPl.out p hle) rfl)
      have HV := Lib.hid hv
      generalize (limbs (a ^ p)).length = lz at *
      clear hz hp hv
      by_cases hb : v % 2 = 1
      · rw [hb] at hand
        rw [if_pos hb] at hhf
        have hhf2 := Lib.hid hhf
        have hbe : (bits .and .i64 (v : Int) 1 == 1) = true := by rw [hand]; rfl
        clear hb hhf hand
        go_wp2_with (fail)
        refine hM.out.mono ?_
        rintro e w2 ⟨u, rfl, hu2, hB⟩
        replace hua := U.below (U.asUn hua) hB
        replace hE := hE.below hB
        obtain ⟨A3, c3, rfl, hc3⟩ := U.shape (U.asUn hu2)
        have hM2 := Lib.hid (mulN w2 _ _ (a ^ p * a ^ p) a _ hu2 hua hpp (HAL.out a rfl) rfl)
        clear hM hB hu2
        generalize (limbs (a ^ p * a ^ p)).length = lz2 at *
        go_wp2_with (fail)
        refine hM2.out.mono ?_
        rintro e w3 ⟨u, rfl, hu3, hB⟩
        replace hua := U.below hua hB
        replace hE := hE.below hB
        rw [← hhf2.out] at hu3
        obtain ⟨A4, c4, rfl, hc4⟩ := U.shape (U.asUn hu3)
        have HU : Hid (Un w3 (.slice A4 (limbs (a ^ v)).length c4) (a ^ (n / 2 ^ i))) := by rw [Hid, HV.out]; exact hu3
        generalize (limbs (a ^ v)).length = lz4 at *
        clear hM2 hB hu3 hhf2
        go_wp2
        go_roundw
        case rel => exact ⟨i, by omega, rfl, HU.out, hua, hE⟩
        case measure => simp [intOf]
      · have hb0 : v % 2 = 0 := by omega
        rw [hb0] at hand
        rw [if_neg hb, Nat.mul_one] at hhf
        have hhf2 := Lib.hid hhf
        have hbe : (bits .and .i64 (v : Int) 1 == 1) = false := by rw [hand]; rfl
        clear hb hb0 hhf hand
        go_wp2_with (fail)
        refine hM.out.mono ?_
        rintro e w2 ⟨u, rfl, hu2, hB⟩
        replace hua := U.below (U.asUn hua) hB
        replace hE := hE.below hB
        rw [← hhf2.out] at hu2
        obtain ⟨A3, c3, rfl, hc3⟩ := U.shape (U.asUn hu2)
        have HU : Hid (Un w2 (.slice A3 (limbs (a ^ v)).length c3) (a ^ (n / 2 ^ i))) := by rw [Hid, HV.out]; exact hu2
        generalize (limbs (a ^ v)).length = lz4 at *
        clear hM hB hu2 hhf2
        go_wp2
        go_roundw
        case rel => exact ⟨i, by omega, rfl, HU.out, hua, hE⟩
        case measure => simp [intOf]
end Go.Proofs.YtigdflfhepelaaaGreatDoor
