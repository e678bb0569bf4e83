/- Which powers a number may be. -/
import Derived.Test.YtbdmncpibnligaaGreatDoorBbb

namespace Go.Proofs.YtbdmncpibnligaaGreatDoor
open Go.RowKit 
set_option linter.unusedVariables false
set_option linter.unusedSimpArgs false
set_option maxRecDepth 100000
set_option maxHeartbeats 4000000
theorem eno_less {p : Nat} : ∀ f t j, Rt.eno p f (t + 1) j = true → Rt.eno p f t j = true
  | 0, _, _, h => by cases h
  | f + 1, 0, j, h => rfl
  | f + 1, t + 1, j, h => by
    unfold Rt.eno at h ⊢
    cases hb : Rt.trl (Nat.add (Nat.mul (Nat.mul 2 p) j) 1) 300 2 with
    | true => rw [hb] at h; exact eno_less f t _ h
    | false => rw [hb] at h; exact eno_less f (t + 1) _ h
theorem eno_zero {p t j : Nat} (h : Rt.eno p 0 t j = true) : t = 0 := by
  cases t
  · rfl
  · cases h
theorem eno_no {p f t j q : Nat} (h : Rt.eno p (f + 1) (t + 1) j = true) (hq : q = 2 * p * j + 1) (hn : ¬ Rt.Pr q) (hq1 : 1 < q) : Rt.eno p f (t + 1) (j + 1) = true := by
  unfold Rt.eno at h
  split at h
  · next h1 =>
    have h2 : Rt.trl q 300 2 = true := by rw [hq]; exact h1
    exact absurd (Rt.pr_trial hq1 (Rt.trl_spec 300 2 (fun x hx hl => by omega) h2)) hn
  · exact h
theorem eno_yes {p f t j : Nat} (h : Rt.eno p (f + 1) (t + 1) j = true) : Rt.eno p f t (j + 1) = true := by
  unfold Rt.eno at h
  split at h
  · exact h
  · exact eno_less _ _ _ h
theorem pj_bound {p j : Nat} (hp : p ≤ 660) (hj : j ≤ 101) : 2 * p * j ≤ 133320 := by
  have := Nat.mul_le_mul (Nat.mul_le_mul_left 2 hp) hj
  omega
theorem tls_eq {p L : Nat} (h0 : p ≠ 0) (h : blen p = L) : 1 + 8 / L = Rt.tls p := by
  rw [← h]
  show 1 + 8 / blen p = 1 + 8 / (Nat.log2 p + 1)
  unfold blen
  rw [if_neg h0]
theorem root_odd {r p a : Nat} (h : r ^ p = a) (ho : a % 4294967296 % 2 = 1) (hp : p ≠ 0) : r % 2 = 1 := by
  rcases Nat.mod_two_eq_zero_or_one r with h1 | h1
  · exfalso
    have h2 : a % 2 = 0 := by rw [← h, Nat.pow_mod, h1, Nat.zero_pow (by omega)]
    omega
  · exact h1
theorem root_bits {r p a t : Nat} (h : r ^ p = a) (ha : a < 2 ^ (p * t)) (hp : p ≠ 0) (ht : t ≤ 40) : r < 2 ^ t ∧ r < 18446744073709551616 := by
  have h1 : r < 2 ^ t := Rt.pow_lt_of (k := p) (by rw [h, ← Nat.pow_mul, Nat.mul_comm]; exact ha)
  have h2 : 2 ^ t ≤ 2 ^ 40 := Nat.pow_le_pow_right (by decide) ht
  exact ⟨h1, by omega⟩
theorem pj_next (p j : Nat) : 2 * p * j + 1 + 2 * p = 2 * p * (j + 1) + 1 := by rw [Nat.mul_add, Nat.mul_one]; omega
theorem pj_quo {p j q : Nat} (hp : p ≠ 0) (hq : q = 2 * p * j + 1) : (q - 1) / p = 2 * j ∧ q = p * (2 * j) + 1 := by
  subst hq
  have e : 2 * p * j = p * (2 * j) := by rw [Nat.mul_comm 2 p, Nat.mul_assoc]
  rw [Nat.add_sub_cancel, e]
  exact ⟨Nat.mul_div_cancel_left _ (Nat.pos_of_ne_zero hp), rfl⟩
theorem un_at {w : World} {A : Option Addr} {n L c i : Nat} (h : Un w (.slice A L c) n) (hi : i < (limbs n).length) : ∃ ad, A = some ad ∧ ∀ X, Pl.Ex w X → X.cell? (ad.add (i * 1)) = some (.int .u32 ((lb (limbs n) i : Nat) : Int)) := by
  obtain ⟨A', c', e, hc, hx, hr⟩ := h
  injection e with e1 e2 e3
  subst e1
  obtain ⟨ad, hA, hb, hcell⟩ := hr (by omega)
  exact ⟨ad, hA, fun X hX => by rw [Nat.mul_one]; exact (Below.cell hX (by rw [addr_add_block]; exact hb)).trans (hcell i hi)⟩
theorem eq_next {n m i : Nat} (h : ∀ j, j < i → lb (limbs n) j = lb (limbs m) j) (he : lb (limbs n) i = lb (limbs m) i) : ∀ j, j < i + 1 → lb (limbs n) j = lb (limbs m) j := fun j hj => by
  rcases Nat.lt_or_ge j i with h1 | h1
  · exact h j h1
  · obtain rfl : j = i := by omega
    exact he
theorem limbs_same {n m i : Nat} (hl : (limbs n).length = (limbs m).length) (hi : i = (limbs n).length) (h : ∀ j, j < i → lb (limbs n) j = lb (limbs m) j) : n = m := by
  refine limbs_inj (List.ext_getElem hl fun j h1 h2 => ?_)
  have := h j (by omega)
  unfold lb at this
  rw [List.getElem?_eq_getElem h1, List.getElem?_eq_getElem h2] at this
  simpa using this
theorem equal_calls (w : World) (va vb : Value) (n m : Nat) (ha : Un w va n) (hb : Un w vb m) :
    Calls Tryz.prog 50 #[va, vb] w fun e w' => e = .returned (.bool (decide (n = m))) ∧ Pl.Ex w w' := by
  obtain ⟨Aa, ca, rfl, -, hn63, -⟩ := un_open ha
  obtain ⟨Ab, cb, rfl, -⟩ := un_open hb
  refine Pl.calls_by (n := 26) (vs := [.slice Aa (limbs n).length ca, .slice Ab (limbs m).length cb]) Tryz.func50 rfl (by kernel_rfl) (by simp) ?_
  repeat refine Pl.V_seq ?_
  refine Pl.V_region (by kernel_rfl) ?_
  refine Pl.qA_go trivial rfl ?_
  refine Pl.pA_end ?_
  repeat refine Pl.V_seq ?_
  refine Pl.V_region (by kernel_rfl) ?_
  refine Pl.qA_go trivial rfl ?_
  refine Pl.qA_ln Tryz.underlying22 trivial rfl rfl rfl rfl rfl ?_
  refine Pl.qA_go trivial rfl ?_
  refine Pl.qA_ln Tryz.underlying22 trivial rfl rfl rfl rfl rfl ?_
  by_cases c1 : ((limbs n).length) ≠ ((limbs m).length)
  · refine Pl.qA_b (v := .bool true) (fun X => Pl.r_neq (Pl.n_t (by omega)) X) trivial rfl rfl rfl rfl rfl rfl ?_
    refine Pl.pA_end ?_
    repeat refine Pl.V_seq ?_
    refine Pl.V_true rfl ?_
    repeat refine Pl.V_seq ?_
    refine Pl.V_region (by kernel_rfl) ?_
    refine Pl.qA_go trivial rfl ?_
    refine Pl.pA_end ?_
    repeat refine Pl.V_seq ?_
    exact Pl.post_ret rfl rfl  (⟨by rw [decide_eq_false (fun e => c1 (by rw [e]))], (Pl.Ex.refl _)⟩)
  · refine Pl.qA_b (v := .bool false) (fun X => Pl.r_neq (Pl.n_f (by omega)) X) trivial rfl rfl rfl rfl rfl rfl ?_
    refine Pl.pA_end ?_
    repeat refine Pl.V_seq ?_
    refine Pl.V_false rfl ?_
    repeat refine Pl.V_seq ?_
    refine Pl.V_skip ?_
    repeat refine Pl.V_seq ?_
    refine Pl.V_region (by kernel_rfl) ?_
    refine Pl.qA_go trivial rfl ?_
    refine Pl.qA_ln Tryz.underlying22 trivial rfl rfl rfl rfl rfl ?_
    refine Pl.qA_go trivial rfl ?_
    refine Pl.pA_end ?_
    repeat refine Pl.V_seq ?_
    refine Pl.V_block ?_
    repeat refine Pl.V_seq ?_
    refine Pl.V_sub [(0, .slice Aa (limbs n).length ca), (1, .slice Ab (limbs m).length cb), (12, .int .i64 (((limbs n).length : Nat) : Int)), (13, .int .i64 0)] (Pl.subl_cons rfl (Pl.subl_cons rfl (Pl.subl_cons rfl (Pl.subl_cons rfl Pl.subl_nil)))) ?_
    repeat refine Pl.V_seq ?_
    refine Pl.V_loop (fun kq l' w' => ∃ i, ((limbs n).length - i) = kq ∧ Pl.Ex w w' ∧ (i ≤ (limbs n).length) ∧ (∀ j, j < i → lb (limbs n) j = lb (limbs m) j) ∧ l' = [(0, .slice Aa (limbs n).length ca), (1, .slice Ab (limbs m).length cb), (12, .int .i64 (((limbs n).length : Nat) : Int)), (13, .int .i64 ((i : Nat) : Int))]) _ ⟨0, rfl, Pl.Ex.refl _, (Nat.zero_le _), (fun j h => by omega), rfl⟩ ?_
    rintro kq _ w1 ⟨i, hk1, hE1, hi, hij, rfl⟩
    have sz1 := Pl.Ex.size hE1
    repeat refine Pl.V_seq ?_
    refine Pl.V_region (by kernel_rfl) ?_
    by_cases c2 : i < ((limbs n).length)
    · refine Pl.qA_b (v := .bool true) (fun X => Pl.r_lss (decide_eq_true (by omega)) X) trivial rfl rfl rfl rfl rfl rfl ?_
      refine Pl.pA_end ?_
      repeat refine Pl.V_seq ?_
      refine Pl.V_true rfl ?_
      repeat refine Pl.V_seq ?_
      refine Pl.V_skip ?_
      repeat refine Pl.V_seq ?_
      refine Pl.V_block ?_
      repeat refine Pl.V_seq ?_
      refine Pl.V_region (by kernel_rfl) ?_
      obtain ⟨p1, hi1, hl1⟩ := un_at ha (show i < (limbs n).length by omega)
      obtain ⟨p2, hi2, hl2⟩ := un_at hb (show i < (limbs m).length by omega)
      subst hi1
      subst hi2
      refine Pl.qA_go trivial rfl ?_
      refine Pl.pA_end ?_
      repeat refine Pl.V_seq ?_
      refine Pl.V_draw (S := fun X => Pl.Ex w1 X) [(true, 0, 0), (true, 1, 1), (true, 2, 3), (true, 3, 7), (true, 4, 15), (true, 5, 31), (true, 6, 63), (true, 7, 127), (true, 8, 255)] fo (by repeat first | exact Pl.post_panic | refine Pl.pn_block ?_ | refine Pl.pn_then ?_ | refine Pl.pn_ks ?_ | refine Pl.pn_goto ?_) (by kernel_rfl) (Pl.Ex.trans (Pl.Ex.refl _) (Pl.Ex.drew _)) ?_
      have hE2 := Pl.Ex.drew w1
      generalize w1.drew = w2 at *
      have sz2 := Pl.Ex.size hE2
      intro hS2
      refine Pl.qA_go hS2 rfl ?_
      refine Pl.qA_ix (s := 1) (j := i) Tryz.underlying22 (by kernel_rfl) rfl (by omega) hS2 rfl rfl rfl rfl rfl rfl ?_
      refine Pl.qA_lc (v := .int .u32 ((lb (limbs n) i : Nat) : Int)) Tryz.underlying36 rfl (fun X hX => hl1 X (Pl.Ex.trans hE1 hX)) hS2 rfl rfl rfl rfl rfl ?_
      refine Pl.qA_go hS2 rfl ?_
      refine Pl.qA_ix (s := 1) (j := i) Tryz.underlying22 (by kernel_rfl) rfl (by omega) hS2 rfl rfl rfl rfl rfl rfl ?_
      refine Pl.qA_lc (v := .int .u32 ((lb (limbs m) i : Nat) : Int)) Tryz.underlying36 rfl (fun X hX => hl2 X (Pl.Ex.trans hE1 hX)) hS2 rfl rfl rfl rfl rfl ?_
      by_cases c3 : (lb (limbs n) i) ≠ (lb (limbs m) i)
      · refine Pl.qA_b (v := .bool true) (fun X => Pl.r_neq (Pl.n_t (by omega)) X) hS2 rfl rfl rfl rfl rfl rfl ?_
        refine Pl.pA_end ?_
        repeat refine Pl.V_seq ?_
        refine Pl.V_true rfl ?_
        repeat refine Pl.V_seq ?_
        refine Pl.V_region (by kernel_rfl) ?_
        refine Pl.qA_go trivial rfl ?_
        refine Pl.pA_end ?_
        repeat refine Pl.V_seq ?_
        refine Pl.V_ret fun aQ hQ => ?_
        repeat first | refine Pl.ret_then ?_ | refine Pl.Ks_ret ?_ | refine Pl.ret_block ?_ | refine Pl.ret_goto ?_
        exact Pl.at_ret1 hQ rfl rfl  (⟨by rw [decide_eq_false (fun e => c3 (by rw [e]))], (Pl.Ex.trans hE1 hE2)⟩)
      · refine Pl.qA_b (v := .bool false) (fun X => Pl.r_neq (Pl.n_f (by omega)) X) hS2 rfl rfl rfl rfl rfl rfl ?_
        refine Pl.pA_end ?_
        repeat refine Pl.V_seq ?_
        refine Pl.V_false rfl ?_
        repeat refine Pl.V_seq ?_
        refine Pl.V_skip ?_
        refine Pl.V_endblock ?_
        repeat refine Pl.V_seq ?_
        refine Pl.V_region (by kernel_rfl) ?_
        refine Pl.qA_b (v := .int .i64 (((i + 1) : Nat) : Int)) (fun X => nb_add_i64 (a := i) (b := 1) (by omega) X) trivial rfl rfl rfl rfl rfl rfl ?_
        refine Pl.qA_go trivial rfl ?_
        refine Pl.pA_end ?_
        repeat refine Pl.V_seq ?_
        refine Pl.V_again (k' := ((limbs n).length - (i + 1))) [(0, .slice (some p1) (limbs n).length ca), (1, .slice (some p2) (limbs m).length cb), (12, .int .i64 (((limbs n).length : Nat) : Int)), (13, .int .i64 (((i + 1) : Nat) : Int))] (Pl.subl_cons rfl (Pl.subl_cons rfl (Pl.subl_cons rfl (Pl.subl_cons rfl Pl.subl_nil)))) (by omega) ⟨(i + 1), rfl, (Pl.Ex.trans hE1 hE2), (by omega), (eq_next hij (Classical.not_not.1 c3)), rfl⟩
    · refine Pl.qA_b (v := .bool false) (fun X => Pl.r_lss (decide_eq_false (by omega)) X) trivial rfl rfl rfl rfl rfl rfl ?_
      refine Pl.pA_end ?_
      repeat refine Pl.V_seq ?_
      refine Pl.V_false rfl ?_
      repeat refine Pl.V_seq ?_
      refine Pl.V_exit ?_
      repeat refine Pl.V_seq ?_
      refine Pl.V_region (by kernel_rfl) ?_
      refine Pl.qA_go trivial rfl ?_
      refine Pl.pA_end ?_
      repeat refine Pl.V_seq ?_
      exact Pl.post_ret rfl rfl  (⟨by rw [decide_eq_true (limbs_same (by omega) (show i = (limbs n).length by omega) hij)], hE1⟩)
theorem may_low {a r p t z : Nat} (ha : a < 2 ^ (p * t)) (hr : r ^ p = a) (hz : ∀ r, r ^ p = a → r % 2 = 1 → z = r % 18446744073709551616) (ho : a % 4294967296 % 2 = 1) (hp : p ≠ 0) (ht : t ≤ 40) : blen z ≤ t := by
  obtain ⟨h1, h2⟩ := root_bits hr ha hp ht
  rw [hz r hr (root_odd hr ho hp), Nat.mod_eq_of_lt h2]
  exact blen_le_of_lt h1
theorem smallN (w : World) (v : Value) (a m : Nat) (h : Un w v a) (hl : Sn a 300) (hm : m < 4294967296) (h0 : m ≠ 0) :
    Calls Tryz.prog 75 #[v, .int .u32 ((m : Nat) : Int)] w fun e w' => ∃ u, e = .returned (.tuple #[u, .int .u32 ((a % m : Nat) : Int), .int .i64 0]) ∧ Un w' u (a / m) ∧ Ext w w' := by
  refine (small_calls w v a m h (Nat.le_trans hl (by decide)) hm h0 _ _ rfl rfl).mono fun e w' hh => ?_
  obtain ⟨⟨u, h1, h2⟩, h3⟩ := hh
  exact ⟨u, h1, h2, h3⟩
theorem may_calls (w : World) (va : Value) (a : Nat) (ha : Un w va a) (la : Sn a 300) (p : Nat) (ha0 : a ≠ 0) (hp2 : 2 ≤ p) (hp6 : p ≤ 660) (hodd : a % 4294967296 % 2 = 1 → p > 2 → p % 2 = 1) :
    Calls Tryz.prog 49 #[va, .int .i64 ((p : Nat) : Int)] w fun e w' => ∃ b : Bool, e = .returned (.bool b) ∧ ((∃ r, r ^ p = a) → b = true) ∧ Pl.Ex w w' := by
  obtain ⟨A, c, rfl, -, -, hA0⟩ := un_open ha
  obtain ⟨ad, rfl, -⟩ := hA0 ha0
  obtain ⟨S, hS⟩ : ∃ S, blen a = S := ⟨_, rfl⟩
  have hS0 : 0 < S := by rw [← hS]; exact blen_pos ha0
  obtain ⟨d, hd⟩ : ∃ d, (S - 1) / p = d := ⟨_, rfl⟩
  obtain ⟨t, ht⟩ : ∃ t, d + 1 = t := ⟨_, rfl⟩
  have hdl : d ≤ S := by rw [← hd]; exact Nat.le_trans (Nat.div_le_self _ _) (by omega)
  obtain ⟨-, -, hat2⟩ := kth_t (t := t) hS (by rw [hd]; exact ht) (by omega) hS0
  have hS9 : S ≤ 9600 := by rw [← hS]; exact la.blen
  refine Pl.calls_by (n := 80) (vs := [(.slice (some ad) (limbs a).length c), .int .i64 ((p : Nat) : Int)]) Tryz.func49 rfl (by kernel_rfl) (by simp) ?_
  repeat refine Pl.V_seq ?_
  refine Pl.V_region (by kernel_rfl) ?_
  refine Pl.qA_go trivial rfl ?_
  refine Pl.pA_end ?_
  repeat refine Pl.V_seq ?_
  refine Pl.V_region (by kernel_rfl) ?_
  refine Pl.qA_go trivial rfl ?_
  refine Pl.pA_call rfl rfl rfl rfl rfl (fun u X => Pl.enters Tryz.func38 (by kernel_rfl) rfl u X) ?_
  refine Calls.mono (bits_B _ _ a ha (Sn.le la (by decide)) _ rfl) ?_
  rintro e w1 ⟨rfl, hE1⟩
  rw [hS]
  have sz1 := Pl.Ex.size hE1
  refine ⟨_, rfl, trivial, ?_⟩
  refine Pl.qA_b (v := .int .i64 (((S - 1) : Nat) : Int)) (fun X => nb_sub_i64 (a := S) (b := 1) (by omega) X) trivial rfl rfl rfl rfl rfl rfl ?_
  refine Pl.qA_go trivial rfl ?_
  refine Pl.qA_b (v := .int .i64 ((d : Nat) : Int)) (fun X => Pl.Bn.as (nb_quo_i64 (a := (S - 1)) (b := p) (by omega) (by omega)) (by rw [hd]) X) trivial rfl rfl rfl rfl rfl rfl ?_
  refine Pl.qA_b (v := .int .i64 ((t : Nat) : Int)) (fun X => Pl.Bn.as (nb_add_i64 (a := d) (b := 1) (by omega)) (by rw [ht]) X) trivial rfl rfl rfl rfl rfl rfl ?_
  refine Pl.qA_go trivial rfl ?_
  refine Pl.pA_end ?_
  repeat refine Pl.V_seq ?_
  refine Pl.V_region (by kernel_rfl) ?_
  refine Pl.qA_go trivial rfl ?_
  refine Pl.qA_ix (s := 1) (j := 0) Tryz.underlying22 (by kernel_rfl) rfl (limbs_nz ha0) trivial rfl rfl rfl rfl rfl rfl ?_
  refine Pl.qA_lcw (v := .int .u32 (((a % 4294967296) : Nat) : Int)) Tryz.underlying36 rfl (un_first (Un.below ha hE1) ha0) trivial rfl rfl rfl rfl rfl ?_
  refine Pl.qA_b (v := .int .u32 ((((a % 4294967296) % 2) : Nat) : Int)) (fun X => Pl.r_and32 (a := (a % 4294967296)) (b := 1) (by omega) (by omega) rfl rfl (and1n _) X) trivial rfl rfl rfl rfl rfl rfl ?_
  by_cases c1 : ((a % 4294967296) % 2) = 1
  · refine Pl.qA_b (v := .bool true) (fun X => Pl.r_eql (Pl.e_t (by omega)) X) trivial rfl rfl rfl rfl rfl rfl ?_
    refine Pl.qA_go trivial rfl ?_
    by_cases c2 : p > 2
    · refine Pl.qA_b (v := .bool true) (fun X => Pl.r_gtr (decide_eq_true (by omega)) X) trivial rfl rfl rfl rfl rfl rfl ?_
      refine Pl.qA_go trivial rfl ?_
      by_cases c3 : t ≤ 40
      · refine Pl.qA_b (v := .bool true) (fun X => Pl.r_leq (decide_eq_true (by omega)) X) trivial rfl rfl rfl rfl rfl rfl ?_
        refine Pl.qA_go trivial rfl ?_
        refine Pl.pA_end ?_
        repeat refine Pl.V_seq ?_
        refine Pl.V_true rfl ?_
        repeat refine Pl.V_seq ?_
        refine Pl.V_region (by kernel_rfl) ?_
        refine Pl.qA_go trivial rfl ?_
        refine Pl.qA_cv (c := ((p : Nat) : Int)) Tryz.underlying49 (by kernel_rfl) (Pl.c_id (a := p) rfl (Pl.wu64 (by omega) (by omega))) trivial rfl rfl rfl rfl rfl ?_
        refine Pl.pA_call rfl rfl rfl rfl rfl (fun u X => Pl.enters Tryz.func73 (by kernel_rfl) rfl u X) ?_
        refine Calls.mono (lowroot_calls _ _ a (Un.below ha hE1) la p (by have := hodd c1 c2; omega) (by omega)) ?_
        rintro e w2 ⟨z, rfl, hz64, hzr, hE2⟩
        have sz2 := Pl.Ex.size hE2
        refine ⟨_, rfl, trivial, ?_⟩
        refine Pl.pA_call rfl rfl rfl rfl rfl (fun u X => Pl.enters Tryz.func57 (by kernel_rfl) rfl u X) ?_
        refine Calls.mono (len64_all _ z (by omega)) ?_
        rintro e w3 ⟨rfl, hE3⟩
        have sz3 := Pl.Ex.size hE3
        refine ⟨_, rfl, trivial, ?_⟩
        refine Pl.qA_go trivial rfl ?_
        by_cases c4 : (blen z) ≤ t
        · refine Pl.qA_b (v := .bool true) (fun X => Pl.r_leq (decide_eq_true (by omega)) X) trivial rfl rfl rfl rfl rfl rfl ?_
          refine Pl.qA_go trivial rfl ?_
          refine Pl.pA_end ?_
          repeat refine Pl.V_seq ?_
          exact Pl.post_ret rfl rfl  (⟨true, rfl, fun _ => rfl, (Pl.Ex.trans hE1 (Pl.Ex.trans hE2 hE3))⟩)
        · refine Pl.qA_b (v := .bool false) (fun X => Pl.r_leq (decide_eq_false (by omega)) X) trivial rfl rfl rfl rfl rfl rfl ?_
          refine Pl.qA_go trivial rfl ?_
          refine Pl.pA_end ?_
          repeat refine Pl.V_seq ?_
          exact Pl.post_ret rfl rfl  (⟨false, rfl, fun ⟨r, hr⟩ => absurd (may_low hat2 hr hzr c1 (by omega) (by omega)) c4, (Pl.Ex.trans hE1 (Pl.Ex.trans hE2 hE3))⟩)
      · refine Pl.qA_b (v := .bool false) (fun X => Pl.r_leq (decide_eq_false (by omega)) X) trivial rfl rfl rfl rfl rfl rfl ?_
        refine Pl.qA_go trivial rfl ?_
        refine Pl.pA_end ?_
        repeat refine Pl.V_seq ?_
        refine Pl.V_false rfl ?_
        repeat refine Pl.V_seq ?_
        refine Pl.V_skip ?_
        repeat refine Pl.V_seq ?_
        refine Pl.V_region (by kernel_rfl) ?_
        obtain ⟨Lp, hLp⟩ : ∃ L, blen p = L := ⟨_, rfl⟩
        have hLp0 : Lp ≠ 0 := by rw [← hLp]; exact Nat.pos_iff_ne_zero.1 (blen_pos (by omega))
        have htl := tls_eq (by omega) hLp
        have htl9 : Rt.tls p ≤ 9 := by rw [← htl]; have := Nat.div_le_self 8 Lp; omega
        obtain ⟨d8, hd8⟩ : ∃ d, 8 / Lp = d := ⟨_, rfl⟩
        have hd88 : d8 ≤ 8 := by rw [← hd8]; exact Nat.div_le_self _ _
        rw [hd8] at htl
        have heno := Rt.eno_all p (by omega) (by omega)
        refine Pl.qA_go trivial rfl ?_
        refine Pl.qA_cv (c := ((p : Nat) : Int)) Tryz.underlying61 (by kernel_rfl) (Pl.c_id (a := p) rfl (Pl.wu64 (by omega) (by omega))) trivial rfl rfl rfl rfl rfl ?_
        refine Pl.pA_call rfl rfl rfl rfl rfl (fun u X => Pl.enters Tryz.func54 (by kernel_rfl) rfl u X) ?_
        refine Calls.mono (len_all _ p (by omega)) ?_
        rintro e w2 ⟨rfl, hE2⟩
        rw [hLp]
        have sz2 := Pl.Ex.size hE2
        refine ⟨_, rfl, trivial, ?_⟩
        refine Pl.qA_b (v := .int .i64 ((d8 : Nat) : Int)) (fun X => Pl.Bn.as (nb_quo_i64 (a := 8) (b := Lp) (by omega) (by omega)) (by rw [hd8]) X) trivial rfl rfl rfl rfl rfl rfl ?_
        refine Pl.qA_b (v := .int .i64 ((Rt.tls p : Nat) : Int)) (fun X => Pl.Bn.as (nb_add_i64 (a := 1) (b := d8) (by omega)) (by rw [htl]) X) trivial rfl rfl rfl rfl rfl rfl ?_
        refine Pl.qA_go trivial rfl ?_
        refine Pl.pA_end ?_
        repeat refine Pl.V_seq ?_
        refine Pl.V_region (by kernel_rfl) ?_
        refine Pl.qA_go trivial rfl ?_
        refine Pl.qA_b (v := .int .i64 (((2 * p) : Nat) : Int)) (fun X => nb_mul_i64 (a := 2) (b := p) (by omega) X) trivial rfl rfl rfl rfl rfl rfl ?_
        refine Pl.qA_b (v := .int .i64 ((((2 * p) + 1) : Nat) : Int)) (fun X => nb_add_i64 (a := (2 * p)) (b := 1) (by omega) X) trivial rfl rfl rfl rfl rfl rfl ?_
        refine Pl.qA_cv (c := ((((2 * p) + 1) : Nat) : Int)) Tryz.underlying49 (by kernel_rfl) (Pl.c_id (a := ((2 * p) + 1)) rfl (Pl.wu64 (by omega) (by omega))) trivial rfl rfl rfl rfl rfl ?_
        refine Pl.qA_go trivial rfl ?_
        refine Pl.pA_end ?_
        repeat refine Pl.V_seq ?_
        refine Pl.V_block ?_
        repeat refine Pl.V_seq ?_
        refine Pl.V_sub [(0, (.slice (some ad) (limbs a).length c)), (1, .int .i64 ((p : Nat) : Int)), (6, .int .i64 ((Rt.tls p : Nat) : Int)), (7, .int .u64 ((((2 * p) + 1) : Nat) : Int))] (Pl.subl_cons rfl (Pl.subl_cons rfl (Pl.subl_cons rfl (Pl.subl_cons rfl Pl.subl_nil)))) ?_
        repeat refine Pl.V_seq ?_
        refine Pl.V_loop (fun kq l' w' => ∃ f T j q, f = kq ∧ Pl.Ex w2 w' ∧ (T ≤ 9) ∧ (f + j ≤ 101) ∧ (1 ≤ j) ∧ (q = 2 * p * j + 1) ∧ (Rt.eno p f T j = true) ∧ l' = [(0, (.slice (some ad) (limbs a).length c)), (1, .int .i64 ((p : Nat) : Int)), (6, .int .i64 ((T : Nat) : Int)), (7, .int .u64 ((q : Nat) : Int))]) _ ⟨100, (Rt.tls p), 1, _, rfl, Pl.Ex.refl _, htl9, (by decide), (by decide), (by omega), heno, rfl⟩ ?_
        rintro kq _ w3 ⟨f, T, j, q, hk3, hE3, hT, hf, hj, hq, hen, rfl⟩
        have sz3 := Pl.Ex.size hE3
        have hqb := pj_bound (p := p) (j := j) (by omega) (by omega)
        have hqpos : 0 < 2 * p * j := Nat.mul_pos (by omega) hj
        repeat refine Pl.V_seq ?_
        refine Pl.V_region (by kernel_rfl) ?_
        refine Pl.qA_go trivial rfl ?_
        by_cases c4 : T > 0
        · refine Pl.qA_b (v := .bool true) (fun X => Pl.r_gtr (decide_eq_true (by omega)) X) trivial rfl rfl rfl rfl rfl rfl ?_
          refine Pl.pA_end ?_
          repeat refine Pl.V_seq ?_
          refine Pl.V_true rfl ?_
          repeat refine Pl.V_seq ?_
          refine Pl.V_skip ?_
          repeat refine Pl.V_seq ?_
          refine Pl.V_block ?_
          repeat refine Pl.V_seq ?_
          refine Pl.V_region (by kernel_rfl) ?_
          obtain ⟨T', rfl⟩ : ∃ t, T = t + 1 := ⟨T - 1, by omega⟩
          obtain ⟨g, rfl⟩ : ∃ g, f = g + 1 := ⟨f - 1, by cases f; exact absurd (eno_zero hen) (by omega); omega⟩
          refine Pl.qA_go trivial rfl ?_
          refine Pl.pA_call rfl rfl rfl rfl rfl (fun u X => Pl.enters Tryz.func74 (by kernel_rfl) rfl u X) ?_
          refine Calls.mono (isprime_calls _ q (by omega)) ?_
          rintro e w4 ⟨bp, rfl, hbp, hE4⟩
          have sz4 := Pl.Ex.size hE4
          refine ⟨_, rfl, trivial, ?_⟩
          by_cases c5 : bp = true
          · refine Pl.qA_un (v := .bool false) trivial rfl rfl rfl rfl rfl (fun X => by rw [c5]; rfl) ?_
            refine Pl.pA_end ?_
            repeat refine Pl.V_seq ?_
            refine Pl.V_false rfl ?_
            repeat refine Pl.V_seq ?_
            refine Pl.V_skip ?_
            repeat refine Pl.V_seq ?_
            refine Pl.V_region (by kernel_rfl) ?_
            refine Pl.qA_go trivial rfl ?_
            refine Pl.qA_cv (c := ((q : Nat) : Int)) Tryz.underlying36 (by kernel_rfl) (Pl.c_id (a := q) rfl (Pl.w32 (by omega) (by omega))) trivial rfl rfl rfl rfl rfl ?_
            refine Pl.pA_call rfl rfl rfl rfl rfl (fun u X => Pl.enters Tryz.func75 (by kernel_rfl) rfl u X) ?_
            refine Calls.mono (smallN _ _ a q (Un.below ha (Pl.Ex.trans hE1 (Pl.Ex.trans hE2 (Pl.Ex.trans hE3 hE4)))) la (by omega) (by omega)) ?_
            rintro e w5 ⟨vq, rfl, hvq, hE5⟩
            have hrq : a % q < q := Nat.mod_lt _ (by omega)
            have sz5 := Pl.Ex.size hE5
            refine ⟨_, rfl, trivial, ?_⟩
            refine Pl.qA_go trivial rfl ?_
            refine Pl.pA_end ?_
            repeat refine Pl.V_seq ?_
            refine Pl.V_region (by kernel_rfl) ?_
            refine Pl.qA_go trivial rfl ?_
            by_cases c6 : (a % q) ≠ 0
            · refine Pl.qA_b (v := .bool true) (fun X => Pl.r_neq (Pl.n_t (by omega)) X) trivial rfl rfl rfl rfl rfl rfl ?_
              refine Pl.qA_go trivial rfl ?_
              refine Pl.qA_cv (c := (((a % q) : Nat) : Int)) Tryz.underlying49 (by kernel_rfl) (Pl.c_id (a := (a % q)) rfl (Pl.wu64 (by omega) (by omega))) trivial rfl rfl rfl rfl rfl ?_
              refine Pl.qA_go trivial rfl ?_
              refine Pl.qA_b (v := .int .u64 (((q - 1) : Nat) : Int)) (fun X => nb_sub_u64 (a := q) (b := 1) (by omega) X) trivial rfl rfl rfl rfl rfl rfl ?_
              refine Pl.qA_go trivial rfl ?_
              refine Pl.qA_cv (c := ((p : Nat) : Int)) Tryz.underlying49 (by kernel_rfl) (Pl.c_id (a := p) rfl (Pl.wu64 (by omega) (by omega))) trivial rfl rfl rfl rfl rfl ?_
              refine Pl.qA_b (v := .int .u64 (((2 * j) : Nat) : Int)) (fun X => Pl.Bn.as (nb_quo_u64 (a := (q - 1)) (b := p) (by omega) (by omega)) (by rw [(pj_quo (by omega) hq).1]) X) trivial rfl rfl rfl rfl rfl rfl ?_
              refine Pl.qA_go trivial rfl ?_
              refine Pl.pA_call rfl rfl rfl rfl rfl (fun u X => Pl.enters Tryz.func76 (by kernel_rfl) rfl u X) ?_
              refine Calls.mono (power_calls _ (a % q) (2 * j) q hrq (by omega) (by omega) (by omega)) ?_
              rintro e w6 ⟨rfl, hE6⟩
              have sz6 := Pl.Ex.size hE6
              refine ⟨_, rfl, trivial, ?_⟩
              by_cases c7 : ((a % q) ^ (2 * j) % q) ≠ 1
              · refine Pl.qA_b (v := .bool true) (fun X => Pl.r_neq (Pl.n_t (by omega)) X) trivial rfl rfl rfl rfl rfl rfl ?_
                refine Pl.qA_go trivial rfl ?_
                refine Pl.pA_end ?_
                repeat refine Pl.V_seq ?_
                refine Pl.V_true rfl ?_
                repeat refine Pl.V_seq ?_
                refine Pl.V_region (by kernel_rfl) ?_
                refine Pl.qA_go trivial rfl ?_
                refine Pl.pA_end ?_
                repeat refine Pl.V_seq ?_
                refine Pl.V_ret fun aQ hQ => ?_
                repeat first | refine Pl.ret_then ?_ | refine Pl.Ks_ret ?_ | refine Pl.ret_block ?_ | refine Pl.ret_goto ?_
                exact Pl.at_ret1 hQ rfl rfl  (⟨false, rfl, fun ⟨r, hr⟩ => absurd (Rt.Pr.rest (hbp.1 c5) (pj_quo (by omega) hq).2 hr c6) c7, (Pl.Ex.trans hE1 (Pl.Ex.trans hE2 (Pl.Ex.trans hE3 (Pl.Ex.trans hE4 (Pl.Ex.trans hE5 hE6)))))⟩)
              · refine Pl.qA_b (v := .bool false) (fun X => Pl.r_neq (Pl.n_f (by omega)) X) trivial rfl rfl rfl rfl rfl rfl ?_
                refine Pl.qA_go trivial rfl ?_
                refine Pl.pA_end ?_
                repeat refine Pl.V_seq ?_
                refine Pl.V_false rfl ?_
                repeat refine Pl.V_seq ?_
                refine Pl.V_skip ?_
                repeat refine Pl.V_seq ?_
                refine Pl.V_region (by kernel_rfl) ?_
                refine Pl.qA_go trivial rfl ?_
                refine Pl.qA_b (v := .int .i64 ((((T' + 1) - 1) : Nat) : Int)) (fun X => nb_sub_i64 (a := (T' + 1)) (b := 1) (by omega) X) trivial rfl rfl rfl rfl rfl rfl ?_
                refine Pl.qA_go trivial rfl ?_
                refine Pl.pA_end ?_
                refine Pl.V_endblock ?_
                repeat refine Pl.V_seq ?_
                refine Pl.V_region (by kernel_rfl) ?_
                refine Pl.qA_go trivial rfl ?_
                refine Pl.qA_b (v := .int .i64 (((2 * p) : Nat) : Int)) (fun X => nb_mul_i64 (a := 2) (b := p) (by omega) X) trivial rfl rfl rfl rfl rfl rfl ?_
                refine Pl.qA_cv (c := (((2 * p) : Nat) : Int)) Tryz.underlying49 (by kernel_rfl) (Pl.c_id (a := (2 * p)) rfl (Pl.wu64 (by omega) (by omega))) trivial rfl rfl rfl rfl rfl ?_
                refine Pl.qA_b (v := .int .u64 (((q + (2 * p)) : Nat) : Int)) (fun X => nb_add_u64 (a := q) (b := (2 * p)) (by omega) X) trivial rfl rfl rfl rfl rfl rfl ?_
                refine Pl.qA_go trivial rfl ?_
                refine Pl.pA_end ?_
                repeat refine Pl.V_seq ?_
                refine Pl.V_again (k' := g) [(0, (.slice (some ad) (limbs a).length c)), (1, .int .i64 ((p : Nat) : Int)), (6, .int .i64 ((((T' + 1) - 1) : Nat) : Int)), (7, .int .u64 (((q + (2 * p)) : Nat) : Int))] (Pl.subl_cons rfl (Pl.subl_cons rfl (Pl.subl_cons rfl (Pl.subl_cons rfl Pl.subl_nil)))) (by omega) ⟨g, (T' + 1 - 1), (j + 1), _, rfl, (Pl.Ex.trans hE3 (Pl.Ex.trans hE4 (Pl.Ex.trans hE5 hE6))), (by omega), (by omega), (by omega), (by rw [hq]; exact pj_next p j), (eno_yes hen), rfl⟩
            · refine Pl.qA_b (v := .bool false) (fun X => Pl.r_neq (Pl.n_f (by omega)) X) trivial rfl rfl rfl rfl rfl rfl ?_
              refine Pl.qA_go trivial rfl ?_
              refine Pl.pA_end ?_
              repeat refine Pl.V_seq ?_
              refine Pl.V_false rfl ?_
              repeat refine Pl.V_seq ?_
              refine Pl.V_skip ?_
              repeat refine Pl.V_seq ?_
              refine Pl.V_region (by kernel_rfl) ?_
              refine Pl.qA_go trivial rfl ?_
              refine Pl.qA_b (v := .int .i64 ((((T' + 1) - 1) : Nat) : Int)) (fun X => nb_sub_i64 (a := (T' + 1)) (b := 1) (by omega) X) trivial rfl rfl rfl rfl rfl rfl ?_
              refine Pl.qA_go trivial rfl ?_
              refine Pl.pA_end ?_
              refine Pl.V_endblock ?_
              repeat refine Pl.V_seq ?_
              refine Pl.V_region (by kernel_rfl) ?_
              refine Pl.qA_go trivial rfl ?_
              refine Pl.qA_b (v := .int .i64 (((2 * p) : Nat) : Int)) (fun X => nb_mul_i64 (a := 2) (b := p) (by omega) X) trivial rfl rfl rfl rfl rfl rfl ?_
              refine Pl.qA_cv (c := (((2 * p) : Nat) : Int)) Tryz.underlying49 (by kernel_rfl) (Pl.c_id (a := (2 * p)) rfl (Pl.wu64 (by omega) (by omega))) trivial rfl rfl rfl rfl rfl ?_
              refine Pl.qA_b (v := .int .u64 (((q + (2 * p)) : Nat) : Int)) (fun X => nb_add_u64 (a := q) (b := (2 * p)) (by omega) X) trivial rfl rfl rfl rfl rfl rfl ?_
              refine Pl.qA_go trivial rfl ?_
              refine Pl.pA_end ?_
              repeat refine Pl.V_seq ?_
              refine Pl.V_again (k' := g) [(0, (.slice (some ad) (limbs a).length c)), (1, .int .i64 ((p : Nat) : Int)), (6, .int .i64 ((((T' + 1) - 1) : Nat) : Int)), (7, .int .u64 (((q + (2 * p)) : Nat) : Int))] (Pl.subl_cons rfl (Pl.subl_cons rfl (Pl.subl_cons rfl (Pl.subl_cons rfl Pl.subl_nil)))) (by omega) ⟨g, (T' + 1 - 1), (j + 1), _, rfl, (Pl.Ex.trans hE3 (Pl.Ex.trans hE4 hE5)), (by omega), (by omega), (by omega), (by rw [hq]; exact pj_next p j), (eno_yes hen), rfl⟩
          · refine Pl.qA_un (v := .bool true) trivial rfl rfl rfl rfl rfl (fun X => by rw [(Bool.eq_false_iff.2 c5)]; rfl) ?_
            refine Pl.pA_end ?_
            repeat refine Pl.V_seq ?_
            refine Pl.V_true rfl ?_
            repeat refine Pl.V_seq ?_
            refine Pl.V_exitHere ?_
            repeat refine Pl.V_seq ?_
            refine Pl.V_region (by kernel_rfl) ?_
            refine Pl.qA_go trivial rfl ?_
            refine Pl.qA_b (v := .int .i64 (((2 * p) : Nat) : Int)) (fun X => nb_mul_i64 (a := 2) (b := p) (by omega) X) trivial rfl rfl rfl rfl rfl rfl ?_
            refine Pl.qA_cv (c := (((2 * p) : Nat) : Int)) Tryz.underlying49 (by kernel_rfl) (Pl.c_id (a := (2 * p)) rfl (Pl.wu64 (by omega) (by omega))) trivial rfl rfl rfl rfl rfl ?_
            refine Pl.qA_b (v := .int .u64 (((q + (2 * p)) : Nat) : Int)) (fun X => nb_add_u64 (a := q) (b := (2 * p)) (by omega) X) trivial rfl rfl rfl rfl rfl rfl ?_
            refine Pl.qA_go trivial rfl ?_
            refine Pl.pA_end ?_
            repeat refine Pl.V_seq ?_
            refine Pl.V_again (k' := g) [(0, (.slice (some ad) (limbs a).length c)), (1, .int .i64 ((p : Nat) : Int)), (6, .int .i64 (((T' + 1) : Nat) : Int)), (7, .int .u64 (((q + (2 * p)) : Nat) : Int))] (Pl.subl_cons rfl (Pl.subl_cons rfl (Pl.subl_cons rfl (Pl.subl_cons rfl Pl.subl_nil)))) (by omega) ⟨g, (T' + 1), (j + 1), _, rfl, (Pl.Ex.trans hE3 hE4), (by omega), (by omega), (by omega), (by rw [hq]; exact pj_next p j), (eno_no hen hq (fun h => c5 (hbp.2 h)) (by omega)), rfl⟩
        · refine Pl.qA_b (v := .bool false) (fun X => Pl.r_gtr (decide_eq_false (by omega)) X) trivial rfl rfl rfl rfl rfl rfl ?_
          refine Pl.pA_end ?_
          repeat refine Pl.V_seq ?_
          refine Pl.V_false rfl ?_
          repeat refine Pl.V_seq ?_
          refine Pl.V_exit ?_
          repeat refine Pl.V_seq ?_
          refine Pl.V_region (by kernel_rfl) ?_
          refine Pl.qA_go trivial rfl ?_
          refine Pl.pA_end ?_
          repeat refine Pl.V_seq ?_
          exact Pl.post_ret rfl rfl  (⟨true, rfl, fun _ => rfl, (Pl.Ex.trans hE1 (Pl.Ex.trans hE2 hE3))⟩)
    · refine Pl.qA_b (v := .bool false) (fun X => Pl.r_gtr (decide_eq_false (by omega)) X) trivial rfl rfl rfl rfl rfl rfl ?_
      refine Pl.qA_go trivial rfl ?_
      refine Pl.pA_end ?_
      repeat refine Pl.V_seq ?_
      refine Pl.V_false rfl ?_
      repeat refine Pl.V_seq ?_
      refine Pl.V_skip ?_
      repeat refine Pl.V_seq ?_
      refine Pl.V_region (by kernel_rfl) ?_
      obtain ⟨Lp, hLp⟩ : ∃ L, blen p = L := ⟨_, rfl⟩
      have hLp0 : Lp ≠ 0 := by rw [← hLp]; exact Nat.pos_iff_ne_zero.1 (blen_pos (by omega))
      have htl := tls_eq (by omega) hLp
      have htl9 : Rt.tls p ≤ 9 := by rw [← htl]; have := Nat.div_le_self 8 Lp; omega
      obtain ⟨d8, hd8⟩ : ∃ d, 8 / Lp = d := ⟨_, rfl⟩
      have hd88 : d8 ≤ 8 := by rw [← hd8]; exact Nat.div_le_self _ _
      rw [hd8] at htl
      have heno := Rt.eno_all p (by omega) (by omega)
      refine Pl.qA_go trivial rfl ?_
      refine Pl.qA_cv (c := ((p : Nat) : Int)) Tryz.underlying61 (by kernel_rfl) (Pl.c_id (a := p) rfl (Pl.wu64 (by omega) (by omega))) trivial rfl rfl rfl rfl rfl ?_
      refine Pl.pA_call rfl rfl rfl rfl rfl (fun u X => Pl.enters Tryz.func54 (by kernel_rfl) rfl u X) ?_
      refine Calls.mono (len_all _ p (by omega)) ?_
      rintro e w2 ⟨rfl, hE2⟩
      rw [hLp]
      have sz2 := Pl.Ex.size hE2
      refine ⟨_, rfl, trivial, ?_⟩
      refine Pl.qA_b (v := .int .i64 ((d8 : Nat) : Int)) (fun X => Pl.Bn.as (nb_quo_i64 (a := 8) (b := Lp) (by omega) (by omega)) (by rw [hd8]) X) trivial rfl rfl rfl rfl rfl rfl ?_
      refine Pl.qA_b (v := .int .i64 ((Rt.tls p : Nat) : Int)) (fun X => Pl.Bn.as (nb_add_i64 (a := 1) (b := d8) (by omega)) (by rw [htl]) X) trivial rfl rfl rfl rfl rfl rfl ?_
      refine Pl.qA_go trivial rfl ?_
      refine Pl.pA_end ?_
      repeat refine Pl.V_seq ?_
      refine Pl.V_region (by kernel_rfl) ?_
      refine Pl.qA_go trivial rfl ?_
      refine Pl.qA_b (v := .int .i64 (((2 * p) : Nat) : Int)) (fun X => nb_mul_i64 (a := 2) (b := p) (by omega) X) trivial rfl rfl rfl rfl rfl rfl ?_
      refine Pl.qA_b (v := .int .i64 ((((2 * p) + 1) : Nat) : Int)) (fun X => nb_add_i64 (a := (2 * p)) (b := 1) (by omega) X) trivial rfl rfl rfl rfl rfl rfl ?_
      refine Pl.qA_cv (c := ((((2 * p) + 1) : Nat) : Int)) Tryz.underlying49 (by kernel_rfl) (Pl.c_id (a := ((2 * p) + 1)) rfl (Pl.wu64 (by omega) (by omega))) trivial rfl rfl rfl rfl rfl ?_
      refine Pl.qA_go trivial rfl ?_
      refine Pl.pA_end ?_
      repeat refine Pl.V_seq ?_
      refine Pl.V_block ?_
      repeat refine Pl.V_seq ?_
      refine Pl.V_sub [(0, (.slice (some ad) (limbs a).length c)), (1, .int .i64 ((p : Nat) : Int)), (6, .int .i64 ((Rt.tls p : Nat) : Int)), (7, .int .u64 ((((2 * p) + 1) : Nat) : Int))] (Pl.subl_cons rfl (Pl.subl_cons rfl (Pl.subl_cons rfl (Pl.subl_cons rfl Pl.subl_nil)))) ?_
      repeat refine Pl.V_seq ?_
      refine Pl.V_loop (fun kq l' w' => ∃ f T j q, f = kq ∧ Pl.Ex w2 w' ∧ (T ≤ 9) ∧ (f + j ≤ 101) ∧ (1 ≤ j) ∧ (q = 2 * p * j + 1) ∧ (Rt.eno p f T j = true) ∧ l' = [(0, (.slice (some ad) (limbs a).length c)), (1, .int .i64 ((p : Nat) : Int)), (6, .int .i64 ((T : Nat) : Int)), (7, .int .u64 ((q : Nat) : Int))]) _ ⟨100, (Rt.tls p), 1, _, rfl, Pl.Ex.refl _, htl9, (by decide), (by decide), (by omega), heno, rfl⟩ ?_
      rintro kq _ w3 ⟨f, T, j, q, hk3, hE3, hT, hf, hj, hq, hen, rfl⟩
      have sz3 := Pl.Ex.size hE3
      have hqb := pj_bound (p := p) (j := j) (by omega) (by omega)
      have hqpos : 0 < 2 * p * j := Nat.mul_pos (by omega) hj
      repeat refine Pl.V_seq ?_
      refine Pl.V_region (by kernel_rfl) ?_
      refine Pl.qA_go trivial rfl ?_
      by_cases c3 : T > 0
      · refine Pl.qA_b (v := .bool true) (fun X => Pl.r_gtr (decide_eq_true (by omega)) X) trivial rfl rfl rfl rfl rfl rfl ?_
        refine Pl.pA_end ?_
        repeat refine Pl.V_seq ?_
        refine Pl.V_true rfl ?_
        repeat refine Pl.V_seq ?_
        refine Pl.V_skip ?_
        repeat refine Pl.V_seq ?_
        refine Pl.V_block ?_
        repeat refine Pl.V_seq ?_
        refine Pl.V_region (by kernel_rfl) ?_
        obtain ⟨T', rfl⟩ : ∃ t, T = t + 1 := ⟨T - 1, by omega⟩
        obtain ⟨g, rfl⟩ : ∃ g, f = g + 1 := ⟨f - 1, by cases f; exact absurd (eno_zero hen) (by omega); omega⟩
        refine Pl.qA_go trivial rfl ?_
        refine Pl.pA_call rfl rfl rfl rfl rfl (fun u X => Pl.enters Tryz.func74 (by kernel_rfl) rfl u X) ?_
        refine Calls.mono (isprime_calls _ q (by omega)) ?_
        rintro e w4 ⟨bp, rfl, hbp, hE4⟩
        have sz4 := Pl.Ex.size hE4
        refine ⟨_, rfl, trivial, ?_⟩
        by_cases c4 : bp = true
        · refine Pl.qA_un (v := .bool false) trivial rfl rfl rfl rfl rfl (fun X => by rw [c4]; rfl) ?_
          refine Pl.pA_end ?_
          repeat refine Pl.V_seq ?_
          refine Pl.V_false rfl ?_
          repeat refine Pl.V_seq ?_
          refine Pl.V_skip ?_
          repeat refine Pl.V_seq ?_
          refine Pl.V_region (by kernel_rfl) ?_
          refine Pl.qA_go trivial rfl ?_
          refine Pl.qA_cv (c := ((q : Nat) : Int)) Tryz.underlying36 (by kernel_rfl) (Pl.c_id (a := q) rfl (Pl.w32 (by omega) (by omega))) trivial rfl rfl rfl rfl rfl ?_
          refine Pl.pA_call rfl rfl rfl rfl rfl (fun u X => Pl.enters Tryz.func75 (by kernel_rfl) rfl u X) ?_
          refine Calls.mono (smallN _ _ a q (Un.below ha (Pl.Ex.trans hE1 (Pl.Ex.trans hE2 (Pl.Ex.trans hE3 hE4)))) la (by omega) (by omega)) ?_
          rintro e w5 ⟨vq, rfl, hvq, hE5⟩
          have hrq : a % q < q := Nat.mod_lt _ (by omega)
          have sz5 := Pl.Ex.size hE5
          refine ⟨_, rfl, trivial, ?_⟩
          refine Pl.qA_go trivial rfl ?_
          refine Pl.pA_end ?_
          repeat refine Pl.V_seq ?_
          refine Pl.V_region (by kernel_rfl) ?_
          refine Pl.qA_go trivial rfl ?_
          by_cases c5 : (a % q) ≠ 0
          · refine Pl.qA_b (v := .bool true) (fun X => Pl.r_neq (Pl.n_t (by omega)) X) trivial rfl rfl rfl rfl rfl rfl ?_
            refine Pl.qA_go trivial rfl ?_
            refine Pl.qA_cv (c := (((a % q) : Nat) : Int)) Tryz.underlying49 (by kernel_rfl) (Pl.c_id (a := (a % q)) rfl (Pl.wu64 (by omega) (by omega))) trivial rfl rfl rfl rfl rfl ?_
            refine Pl.qA_go trivial rfl ?_
            refine Pl.qA_b (v := .int .u64 (((q - 1) : Nat) : Int)) (fun X => nb_sub_u64 (a := q) (b := 1) (by omega) X) trivial rfl rfl rfl rfl rfl rfl ?_
            refine Pl.qA_go trivial rfl ?_
            refine Pl.qA_cv (c := ((p : Nat) : Int)) Tryz.underlying49 (by kernel_rfl) (Pl.c_id (a := p) rfl (Pl.wu64 (by omega) (by omega))) trivial rfl rfl rfl rfl rfl ?_
            refine Pl.qA_b (v := .int .u64 (((2 * j) : Nat) : Int)) (fun X => Pl.Bn.as (nb_quo_u64 (a := (q - 1)) (b := p) (by omega) (by omega)) (by rw [(pj_quo (by omega) hq).1]) X) trivial rfl rfl rfl rfl rfl rfl ?_
            refine Pl.qA_go trivial rfl ?_
            refine Pl.pA_call rfl rfl rfl rfl rfl (fun u X => Pl.enters Tryz.func76 (by kernel_rfl) rfl u X) ?_
            refine Calls.mono (power_calls _ (a % q) (2 * j) q hrq (by omega) (by omega) (by omega)) ?_
            rintro e w6 ⟨rfl, hE6⟩
            have sz6 := Pl.Ex.size hE6
            refine ⟨_, rfl, trivial, ?_⟩
            by_cases c6 : ((a % q) ^ (2 * j) % q) ≠ 1
            · refine Pl.qA_b (v := .bool true) (fun X => Pl.r_neq (Pl.n_t (by omega)) X) trivial rfl rfl rfl rfl rfl rfl ?_
              refine Pl.qA_go trivial rfl ?_
              refine Pl.pA_end ?_
              repeat refine Pl.V_seq ?_
              refine Pl.V_true rfl ?_
              repeat refine Pl.V_seq ?_
              refine Pl.V_region (by kernel_rfl) ?_
              refine Pl.qA_go trivial rfl ?_
              refine Pl.pA_end ?_
              repeat refine Pl.V_seq ?_
              refine Pl.V_ret fun aQ hQ => ?_
              repeat first | refine Pl.ret_then ?_ | refine Pl.Ks_ret ?_ | refine Pl.ret_block ?_ | refine Pl.ret_goto ?_
              exact Pl.at_ret1 hQ rfl rfl  (⟨false, rfl, fun ⟨r, hr⟩ => absurd (Rt.Pr.rest (hbp.1 c4) (pj_quo (by omega) hq).2 hr c5) c6, (Pl.Ex.trans hE1 (Pl.Ex.trans hE2 (Pl.Ex.trans hE3 (Pl.Ex.trans hE4 (Pl.Ex.trans hE5 hE6)))))⟩)
            · refine Pl.qA_b (v := .bool false) (fun X => Pl.r_neq (Pl.n_f (by omega)) X) trivial rfl rfl rfl rfl rfl rfl ?_
              refine Pl.qA_go trivial rfl ?_
              refine Pl.pA_end ?_
              repeat refine Pl.V_seq ?_
              refine Pl.V_false rfl ?_
              repeat refine Pl.V_seq ?_
              refine Pl.V_skip ?_
              repeat refine Pl.V_seq ?_
              refine Pl.V_region (by kernel_rfl) ?_
              refine Pl.qA_go trivial rfl ?_
              refine Pl.qA_b (v := .int .i64 ((((T' + 1) - 1) : Nat) : Int)) (fun X => nb_sub_i64 (a := (T' + 1)) (b := 1) (by omega) X) trivial rfl rfl rfl rfl rfl rfl ?_
              refine Pl.qA_go trivial rfl ?_
              refine Pl.pA_end ?_
              refine Pl.V_endblock ?_
              repeat refine Pl.V_seq ?_
              refine Pl.V_region (by kernel_rfl) ?_
              refine Pl.qA_go trivial rfl ?_
              refine Pl.qA_b (v := .int .i64 (((2 * p) : Nat) : Int)) (fun X => nb_mul_i64 (a := 2) (b := p) (by omega) X) trivial rfl rfl rfl rfl rfl rfl ?_
              refine Pl.qA_cv (c := (((2 * p) : Nat) : Int)) Tryz.underlying49 (by kernel_rfl) (Pl.c_id (a := (2 * p)) rfl (Pl.wu64 (by omega) (by omega))) trivial rfl rfl rfl rfl rfl ?_
              refine Pl.qA_b (v := .int .u64 (((q + (2 * p)) : Nat) : Int)) (fun X => nb_add_u64 (a := q) (b := (2 * p)) (by omega) X) trivial rfl rfl rfl rfl rfl rfl ?_
              refine Pl.qA_go trivial rfl ?_
              refine Pl.pA_end ?_
              repeat refine Pl.V_seq ?_
              refine Pl.V_again (k' := g) [(0, (.slice (some ad) (limbs a).length c)), (1, .int .i64 ((p : Nat) : Int)), (6, .int .i64 ((((T' + 1) - 1) : Nat) : Int)), (7, .int .u64 (((q + (2 * p)) : Nat) : Int))] (Pl.subl_cons rfl (Pl.subl_cons rfl (Pl.subl_cons rfl (Pl.subl_cons rfl Pl.subl_nil)))) (by omega) ⟨g, (T' + 1 - 1), (j + 1), _, rfl, (Pl.Ex.trans hE3 (Pl.Ex.trans hE4 (Pl.Ex.trans hE5 hE6))), (by omega), (by omega), (by omega), (by rw [hq]; exact pj_next p j), (eno_yes hen), rfl⟩
          · refine Pl.qA_b (v := .bool false) (fun X => Pl.r_neq (Pl.n_f (by omega)) X) trivial rfl rfl rfl rfl rfl rfl ?_
            refine Pl.qA_go trivial rfl ?_
            refine Pl.pA_end ?_
            repeat refine Pl.V_seq ?_
            refine Pl.V_false rfl ?_
            repeat refine Pl.V_seq ?_
            refine Pl.V_skip ?_
            repeat refine Pl.V_seq ?_
            refine Pl.V_region (by kernel_rfl) ?_
            refine Pl.qA_go trivial rfl ?_
            refine Pl.qA_b (v := .int .i64 ((((T' + 1) - 1) : Nat) : Int)) (fun X => nb_sub_i64 (a := (T' + 1)) (b := 1) (by omega) X) trivial rfl rfl rfl rfl rfl rfl ?_
            refine Pl.qA_go trivial rfl ?_
            refine Pl.pA_end ?_
            refine Pl.V_endblock ?_
            repeat refine Pl.V_seq ?_
            refine Pl.V_region (by kernel_rfl) ?_
            refine Pl.qA_go trivial rfl ?_
            refine Pl.qA_b (v := .int .i64 (((2 * p) : Nat) : Int)) (fun X => nb_mul_i64 (a := 2) (b := p) (by omega) X) trivial rfl rfl rfl rfl rfl rfl ?_
            refine Pl.qA_cv (c := (((2 * p) : Nat) : Int)) Tryz.underlying49 (by kernel_rfl) (Pl.c_id (a := (2 * p)) rfl (Pl.wu64 (by omega) (by omega))) trivial rfl rfl rfl rfl rfl ?_
            refine Pl.qA_b (v := .int .u64 (((q + (2 * p)) : Nat) : Int)) (fun X => nb_add_u64 (a := q) (b := (2 * p)) (by omega) X) trivial rfl rfl rfl rfl rfl rfl ?_
            refine Pl.qA_go trivial rfl ?_
            refine Pl.pA_end ?_
            repeat refine Pl.V_seq ?_
            refine Pl.V_again (k' := g) [(0, (.slice (some ad) (limbs a).length c)), (1, .int .i64 ((p : Nat) : Int)), (6, .int .i64 ((((T' + 1) - 1) : Nat) : Int)), (7, .int .u64 (((q + (2 * p)) : Nat) : Int))] (Pl.subl_cons rfl (Pl.subl_cons rfl (Pl.subl_cons rfl (Pl.subl_cons rfl Pl.subl_nil)))) (by omega) ⟨g, (T' + 1 - 1), (j + 1), _, rfl, (Pl.Ex.trans hE3 (Pl.Ex.trans hE4 hE5)), (by omega), (by omega), (by omega), (by rw [hq]; exact pj_next p j), (eno_yes hen), rfl⟩
        · refine Pl.qA_un (v := .bool true) trivial rfl rfl rfl rfl rfl (fun X => by rw [(Bool.eq_false_iff.2 c4)]; rfl) ?_
          refine Pl.pA_end ?_
          repeat refine Pl.V_seq ?_
          refine Pl.V_true rfl ?_
          repeat refine Pl.V_seq ?_
          refine Pl.V_exitHere ?_
          repeat refine Pl.V_seq ?_
          refine Pl.V_region (by kernel_rfl) ?_
          refine Pl.qA_go trivial rfl ?_
          refine Pl.qA_b (v := .int .i64 (((2 * p) : Nat) : Int)) (fun X => nb_mul_i64 (a := 2) (b := p) (by omega) X) trivial rfl rfl rfl rfl rfl rfl ?_
          refine Pl.qA_cv (c := (((2 * p) : Nat) : Int)) Tryz.underlying49 (by kernel_rfl) (Pl.c_id (a := (2 * p)) rfl (Pl.wu64 (by omega) (by omega))) trivial rfl rfl rfl rfl rfl ?_
          refine Pl.qA_b (v := .int .u64 (((q + (2 * p)) : Nat) : Int)) (fun X => nb_add_u64 (a := q) (b := (2 * p)) (by omega) X) trivial rfl rfl rfl rfl rfl rfl ?_
          refine Pl.qA_go trivial rfl ?_
          refine Pl.pA_end ?_
          repeat refine Pl.V_seq ?_
          refine Pl.V_again (k' := g) [(0, (.slice (some ad) (limbs a).length c)), (1, .int .i64 ((p : Nat) : Int)), (6, .int .i64 (((T' + 1) : Nat) : Int)), (7, .int .u64 (((q + (2 * p)) : Nat) : Int))] (Pl.subl_cons rfl (Pl.subl_cons rfl (Pl.subl_cons rfl (Pl.subl_cons rfl Pl.subl_nil)))) (by omega) ⟨g, (T' + 1), (j + 1), _, rfl, (Pl.Ex.trans hE3 hE4), (by omega), (by omega), (by omega), (by rw [hq]; exact pj_next p j), (eno_no hen hq (fun h => c4 (hbp.2 h)) (by omega)), rfl⟩
      · refine Pl.qA_b (v := .bool false) (fun X => Pl.r_gtr (decide_eq_false (by omega)) X) trivial rfl rfl rfl rfl rfl rfl ?_
        refine Pl.pA_end ?_
        repeat refine Pl.V_seq ?_
        refine Pl.V_false rfl ?_
        repeat refine Pl.V_seq ?_
        refine Pl.V_exit ?_
        repeat refine Pl.V_seq ?_
        refine Pl.V_region (by kernel_rfl) ?_
        refine Pl.qA_go trivial rfl ?_
        refine Pl.pA_end ?_
        repeat refine Pl.V_seq ?_
        exact Pl.post_ret rfl rfl  (⟨true, rfl, fun _ => rfl, (Pl.Ex.trans hE1 (Pl.Ex.trans hE2 hE3))⟩)
  · refine Pl.qA_b (v := .bool false) (fun X => Pl.r_eql (Pl.e_f (by omega)) X) trivial rfl rfl rfl rfl rfl rfl ?_
    refine Pl.qA_go trivial rfl ?_
    refine Pl.pA_end ?_
    repeat refine Pl.V_seq ?_
    refine Pl.V_false rfl ?_
    repeat refine Pl.V_seq ?_
    refine Pl.V_skip ?_
    repeat refine Pl.V_seq ?_
    refine Pl.V_region (by kernel_rfl) ?_
    obtain ⟨Lp, hLp⟩ : ∃ L, blen p = L := ⟨_, rfl⟩
    have hLp0 : Lp ≠ 0 := by rw [← hLp]; exact Nat.pos_iff_ne_zero.1 (blen_pos (by omega))
    have htl := tls_eq (by omega) hLp
    have htl9 : Rt.tls p ≤ 9 := by rw [← htl]; have := Nat.div_le_self 8 Lp; omega
    obtain ⟨d8, hd8⟩ : ∃ d, 8 / Lp = d := ⟨_, rfl⟩
    have hd88 : d8 ≤ 8 := by rw [← hd8]; exact Nat.div_le_self _ _
    rw [hd8] at htl
    have heno := Rt.eno_all p (by omega) (by omega)
    refine Pl.qA_go trivial rfl ?_
    refine Pl.qA_cv (c := ((p : Nat) : Int)) Tryz.underlying61 (by kernel_rfl) (Pl.c_id (a := p) rfl (Pl.wu64 (by omega) (by omega))) trivial rfl rfl rfl rfl rfl ?_
    refine Pl.pA_call rfl rfl rfl rfl rfl (fun u X => Pl.enters Tryz.func54 (by kernel_rfl) rfl u X) ?_
    refine Calls.mono (len_all _ p (by omega)) ?_
    rintro e w2 ⟨rfl, hE2⟩
    rw [hLp]
    have sz2 := Pl.Ex.size hE2
    refine ⟨_, rfl, trivial, ?_⟩
    refine Pl.qA_b (v := .int .i64 ((d8 : Nat) : Int)) (fun X => Pl.Bn.as (nb_quo_i64 (a := 8) (b := Lp) (by omega) (by omega)) (by rw [hd8]) X) trivial rfl rfl rfl rfl rfl rfl ?_
    refine Pl.qA_b (v := .int .i64 ((Rt.tls p : Nat) : Int)) (fun X => Pl.Bn.as (nb_add_i64 (a := 1) (b := d8) (by omega)) (by rw [htl]) X) trivial rfl rfl rfl rfl rfl rfl ?_
    refine Pl.qA_go trivial rfl ?_
    refine Pl.pA_end ?_
    repeat refine Pl.V_seq ?_
    refine Pl.V_region (by kernel_rfl) ?_
    refine Pl.qA_go trivial rfl ?_
    refine Pl.qA_b (v := .int .i64 (((2 * p) : Nat) : Int)) (fun X => nb_mul_i64 (a := 2) (b := p) (by omega) X) trivial rfl rfl rfl rfl rfl rfl ?_
    refine Pl.qA_b (v := .int .i64 ((((2 * p) + 1) : Nat) : Int)) (fun X => nb_add_i64 (a := (2 * p)) (b := 1) (by omega) X) trivial rfl rfl rfl rfl rfl rfl ?_
    refine Pl.qA_cv (c := ((((2 * p) + 1) : Nat) : Int)) Tryz.underlying49 (by kernel_rfl) (Pl.c_id (a := ((2 * p) + 1)) rfl (Pl.wu64 (by omega) (by omega))) trivial rfl rfl rfl rfl rfl ?_
    refine Pl.qA_go trivial rfl ?_
    refine Pl.pA_end ?_
    repeat refine Pl.V_seq ?_
    refine Pl.V_block ?_
    repeat refine Pl.V_seq ?_
    refine Pl.V_sub [(0, (.slice (some ad) (limbs a).length c)), (1, .int .i64 ((p : Nat) : Int)), (6, .int .i64 ((Rt.tls p : Nat) : Int)), (7, .int .u64 ((((2 * p) + 1) : Nat) : Int))] (Pl.subl_cons rfl (Pl.subl_cons rfl (Pl.subl_cons rfl (Pl.subl_cons rfl Pl.subl_nil)))) ?_
    repeat refine Pl.V_seq ?_
    refine Pl.V_loop (fun kq l' w' => ∃ f T j q, f = kq ∧ Pl.Ex w2 w' ∧ (T ≤ 9) ∧ (f + j ≤ 101) ∧ (1 ≤ j) ∧ (q = 2 * p * j + 1) ∧ (Rt.eno p f T j = true) ∧ l' = [(0, (.slice (some ad) (limbs a).length c)), (1, .int .i64 ((p : Nat) : Int)), (6, .int .i64 ((T : Nat) : Int)), (7, .int .u64 ((q : Nat) : Int))]) _ ⟨100, (Rt.tls p), 1, _, rfl, Pl.Ex.refl _, htl9, (by decide), (by decide), (by omega), heno, rfl⟩ ?_
    rintro kq _ w3 ⟨f, T, j, q, hk3, hE3, hT, hf, hj, hq, hen, rfl⟩
    have sz3 := Pl.Ex.size hE3
    have hqb := pj_bound (p := p) (j := j) (by omega) (by omega)
    have hqpos : 0 < 2 * p * j := Nat.mul_pos (by omega) hj
    repeat refine Pl.V_seq ?_
    refine Pl.V_region (by kernel_rfl) ?_
    refine Pl.qA_go trivial rfl ?_
    by_cases c2 : T > 0
    · refine Pl.qA_b (v := .bool true) (fun X => Pl.r_gtr (decide_eq_true (by omega)) X) trivial rfl rfl rfl rfl rfl rfl ?_
      refine Pl.pA_end ?_
      repeat refine Pl.V_seq ?_
      refine Pl.V_true rfl ?_
      repeat refine Pl.V_seq ?_
      refine Pl.V_skip ?_
      repeat refine Pl.V_seq ?_
      refine Pl.V_block ?_
      repeat refine Pl.V_seq ?_
      refine Pl.V_region (by kernel_rfl) ?_
      obtain ⟨T', rfl⟩ : ∃ t, T = t + 1 := ⟨T - 1, by omega⟩
      obtain ⟨g, rfl⟩ : ∃ g, f = g + 1 := ⟨f - 1, by cases f; exact absurd (eno_zero hen) (by omega); omega⟩
      refine Pl.qA_go trivial rfl ?_
      refine Pl.pA_call rfl rfl rfl rfl rfl (fun u X => Pl.enters Tryz.func74 (by kernel_rfl) rfl u X) ?_
      refine Calls.mono (isprime_calls _ q (by omega)) ?_
      rintro e w4 ⟨bp, rfl, hbp, hE4⟩
      have sz4 := Pl.Ex.size hE4
      refine ⟨_, rfl, trivial, ?_⟩
      by_cases c3 : bp = true
      · refine Pl.qA_un (v := .bool false) trivial rfl rfl rfl rfl rfl (fun X => by rw [c3]; rfl) ?_
        refine Pl.pA_end ?_
        repeat refine Pl.V_seq ?_
        refine Pl.V_false rfl ?_
        repeat refine Pl.V_seq ?_
        refine Pl.V_skip ?_
        repeat refine Pl.V_seq ?_
        refine Pl.V_region (by kernel_rfl) ?_
        refine Pl.qA_go trivial rfl ?_
        refine Pl.qA_cv (c := ((q : Nat) : Int)) Tryz.underlying36 (by kernel_rfl) (Pl.c_id (a := q) rfl (Pl.w32 (by omega) (by omega))) trivial rfl rfl rfl rfl rfl ?_
        refine Pl.pA_call rfl rfl rfl rfl rfl (fun u X => Pl.enters Tryz.func75 (by kernel_rfl) rfl u X) ?_
        refine Calls.mono (smallN _ _ a q (Un.below ha (Pl.Ex.trans hE1 (Pl.Ex.trans hE2 (Pl.Ex.trans hE3 hE4)))) la (by omega) (by omega)) ?_
        rintro e w5 ⟨vq, rfl, hvq, hE5⟩
        have hrq : a % q < q := Nat.mod_lt _ (by omega)
        have sz5 := Pl.Ex.size hE5
        refine ⟨_, rfl, trivial, ?_⟩
        refine Pl.qA_go trivial rfl ?_
        refine Pl.pA_end ?_
        repeat refine Pl.V_seq ?_
        refine Pl.V_region (by kernel_rfl) ?_
        refine Pl.qA_go trivial rfl ?_
        by_cases c4 : (a % q) ≠ 0
        · refine Pl.qA_b (v := .bool true) (fun X => Pl.r_neq (Pl.n_t (by omega)) X) trivial rfl rfl rfl rfl rfl rfl ?_
          refine Pl.qA_go trivial rfl ?_
          refine Pl.qA_cv (c := (((a % q) : Nat) : Int)) Tryz.underlying49 (by kernel_rfl) (Pl.c_id (a := (a % q)) rfl (Pl.wu64 (by omega) (by omega))) trivial rfl rfl rfl rfl rfl ?_
          refine Pl.qA_go trivial rfl ?_
          refine Pl.qA_b (v := .int .u64 (((q - 1) : Nat) : Int)) (fun X => nb_sub_u64 (a := q) (b := 1) (by omega) X) trivial rfl rfl rfl rfl rfl rfl ?_
          refine Pl.qA_go trivial rfl ?_
          refine Pl.qA_cv (c := ((p : Nat) : Int)) Tryz.underlying49 (by kernel_rfl) (Pl.c_id (a := p) rfl (Pl.wu64 (by omega) (by omega))) trivial rfl rfl rfl rfl rfl ?_
          refine Pl.qA_b (v := .int .u64 (((2 * j) : Nat) : Int)) (fun X => Pl.Bn.as (nb_quo_u64 (a := (q - 1)) (b := p) (by omega) (by omega)) (by rw [(pj_quo (by omega) hq).1]) X) trivial rfl rfl rfl rfl rfl rfl ?_
          refine Pl.qA_go trivial rfl ?_
          refine Pl.pA_call rfl rfl rfl rfl rfl (fun u X => Pl.enters Tryz.func76 (by kernel_rfl) rfl u X) ?_
          refine Calls.mono (power_calls _ (a % q) (2 * j) q hrq (by omega) (by omega) (by omega)) ?_
          rintro e w6 ⟨rfl, hE6⟩
          have sz6 := Pl.Ex.size hE6
          refine ⟨_, rfl, trivial, ?_⟩
          by_cases c5 : ((a % q) ^ (2 * j) % q) ≠ 1
          · refine Pl.qA_b (v := .bool true) (fun X => Pl.r_neq (Pl.n_t (by omega)) X) trivial rfl rfl rfl rfl rfl rfl ?_
            refine Pl.qA_go trivial rfl ?_
            refine Pl.pA_end ?_
            repeat refine Pl.V_seq ?_
            refine Pl.V_true rfl ?_
            repeat refine Pl.V_seq ?_
            refine Pl.V_region (by kernel_rfl) ?_
            refine Pl.qA_go trivial rfl ?_
            refine Pl.pA_end ?_
            repeat refine Pl.V_seq ?_
            refine Pl.V_ret fun aQ hQ => ?_
            repeat first | refine Pl.ret_then ?_ | refine Pl.Ks_ret ?_ | refine Pl.ret_block ?_ | refine Pl.ret_goto ?_
            exact Pl.at_ret1 hQ rfl rfl  (⟨false, rfl, fun ⟨r, hr⟩ => absurd (Rt.Pr.rest (hbp.1 c3) (pj_quo (by omega) hq).2 hr c4) c5, (Pl.Ex.trans hE1 (Pl.Ex.trans hE2 (Pl.Ex.trans hE3 (Pl.Ex.trans hE4 (Pl.Ex.trans hE5 hE6)))))⟩)
          · refine Pl.qA_b (v := .bool false) (fun X => Pl.r_neq (Pl.n_f (by omega)) X) trivial rfl rfl rfl rfl rfl rfl ?_
            refine Pl.qA_go trivial rfl ?_
            refine Pl.pA_end ?_
            repeat refine Pl.V_seq ?_
            refine Pl.V_false rfl ?_
            repeat refine Pl.V_seq ?_
            refine Pl.V_skip ?_
            repeat refine Pl.V_seq ?_
            refine Pl.V_region (by kernel_rfl) ?_
            refine Pl.qA_go trivial rfl ?_
            refine Pl.qA_b (v := .int .i64 ((((T' + 1) - 1) : Nat) : Int)) (fun X => nb_sub_i64 (a := (T' + 1)) (b := 1) (by omega) X) trivial rfl rfl rfl rfl rfl rfl ?_
            refine Pl.qA_go trivial rfl ?_
            refine Pl.pA_end ?_
            refine Pl.V_endblock ?_
            repeat refine Pl.V_seq ?_
            refine Pl.V_region (by kernel_rfl) ?_
            refine Pl.qA_go trivial rfl ?_
            refine Pl.qA_b (v := .int .i64 (((2 * p) : Nat) : Int)) (fun X => nb_mul_i64 (a := 2) (b := p) (by omega) X) trivial rfl rfl rfl rfl rfl rfl ?_
            refine Pl.qA_cv (c := (((2 * p) : Nat) : Int)) Tryz.underlying49 (by kernel_rfl) (Pl.c_id (a := (2 * p)) rfl (Pl.wu64 (by omega) (by omega))) trivial rfl rfl rfl rfl rfl ?_
            refine Pl.qA_b (v := .int .u64 (((q + (2 * p)) : Nat) : Int)) (fun X => nb_add_u64 (a := q) (b := (2 * p)) (by omega) X) trivial rfl rfl rfl rfl rfl rfl ?_
            refine Pl.qA_go trivial rfl ?_
            refine Pl.pA_end ?_
            repeat refine Pl.V_seq ?_
            refine Pl.V_again (k' := g) [(0, (.slice (some ad) (limbs a).length c)), (1, .int .i64 ((p : Nat) : Int)), (6, .int .i64 ((((T' + 1) - 1) : Nat) : Int)), (7, .int .u64 (((q + (2 * p)) : Nat) : Int))] (Pl.subl_cons rfl (Pl.subl_cons rfl (Pl.subl_cons rfl (Pl.subl_cons rfl Pl.subl_nil)))) (by omega) ⟨g, (T' + 1 - 1), (j + 1), _, rfl, (Pl.Ex.trans hE3 (Pl.Ex.trans hE4 (Pl.Ex.trans hE5 hE6))), (by omega), (by omega), (by omega), (by rw [hq]; exact pj_next p j), (eno_yes hen), rfl⟩
        · refine Pl.qA_b (v := .bool false) (fun X => Pl.r_neq (Pl.n_f (by omega)) X) trivial rfl rfl rfl rfl rfl rfl ?_
          refine Pl.qA_go trivial rfl ?_
          refine Pl.pA_end ?_
          repeat refine Pl.V_seq ?_
          refine Pl.V_false rfl ?_
          repeat refine Pl.V_seq ?_
          refine Pl.V_skip ?_
          repeat refine Pl.V_seq ?_
          refine Pl.V_region (by kernel_rfl) ?_
          refine Pl.qA_go trivial rfl ?_
          refine Pl.qA_b (v := .int .i64 ((((T' + 1) - 1) : Nat) : Int)) (fun X => nb_sub_i64 (a := (T' + 1)) (b := 1) (by omega) X) trivial rfl rfl rfl rfl rfl rfl ?_
          refine Pl.qA_go trivial rfl ?_
          refine Pl.pA_end ?_
          refine Pl.V_endblock ?_
          repeat refine Pl.V_seq ?_
          refine Pl.V_region (by kernel_rfl) ?_
          refine Pl.qA_go trivial rfl ?_
          refine Pl.qA_b (v := .int .i64 (((2 * p) : Nat) : Int)) (fun X => nb_mul_i64 (a := 2) (b := p) (by omega) X) trivial rfl rfl rfl rfl rfl rfl ?_
          refine Pl.qA_cv (c := (((2 * p) : Nat) : Int)) Tryz.underlying49 (by kernel_rfl) (Pl.c_id (a := (2 * p)) rfl (Pl.wu64 (by omega) (by omega))) trivial rfl rfl rfl rfl rfl ?_
          refine Pl.qA_b (v := .int .u64 (((q + (2 * p)) : Nat) : Int)) (fun X => nb_add_u64 (a := q) (b := (2 * p)) (by omega) X) trivial rfl rfl rfl rfl rfl rfl ?_
          refine Pl.qA_go trivial rfl ?_
          refine Pl.pA_end ?_
          repeat refine Pl.V_seq ?_
          refine Pl.V_again (k' := g) [(0, (.slice (some ad) (limbs a).length c)), (1, .int .i64 ((p : Nat) : Int)), (6, .int .i64 ((((T' + 1) - 1) : Nat) : Int)), (7, .int .u64 (((q + (2 * p)) : Nat) : Int))] (Pl.subl_cons rfl (Pl.subl_cons rfl (Pl.subl_cons rfl (Pl.subl_cons rfl Pl.subl_nil)))) (by omega) ⟨g, (T' + 1 - 1), (j + 1), _, rfl, (Pl.Ex.trans hE3 (Pl.Ex.trans hE4 hE5)), (by omega), (by omega), (by omega), (by rw [hq]; exact pj_next p j), (eno_yes hen), rfl⟩
      · refine Pl.qA_un (v := .bool true) trivial rfl rfl rfl rfl rfl (fun X => by rw [(Bool.eq_false_iff.2 c3)]; rfl) ?_
        refine Pl.pA_end ?_
        repeat refine Pl.V_seq ?_
        refine Pl.V_true rfl ?_
        repeat refine Pl.V_seq ?_
        refine Pl.V_exitHere ?_
        repeat refine Pl.V_seq ?_
        refine Pl.V_region (by kernel_rfl) ?_
        refine Pl.qA_go trivial rfl ?_
        refine Pl.qA_b (v := .int .i64 (((2 * p) : Nat) : Int)) (fun X => nb_mul_i64 (a := 2) (b := p) (by omega) X) trivial rfl rfl rfl rfl rfl rfl ?_
        refine Pl.qA_cv (c := (((2 * p) : Nat) : Int)) Tryz.underlying49 (by kernel_rfl) (Pl.c_id (a := (2 * p)) rfl (Pl.wu64 (by omega) (by omega))) trivial rfl rfl rfl rfl rfl ?_
        refine Pl.qA_b (v := .int .u64 (((q + (2 * p)) : Nat) : Int)) (fun X => nb_add_u64 (a := q) (b := (2 * p)) (by omega) X) trivial rfl rfl rfl rfl rfl rfl ?_
        refine Pl.qA_go trivial rfl ?_
        refine Pl.pA_end ?_
        repeat refine Pl.V_seq ?_
        refine Pl.V_again (k' := g) [(0, (.slice (some ad) (limbs a).length c)), (1, .int .i64 ((p : Nat) : Int)), (6, .int .i64 (((T' + 1) : Nat) : Int)), (7, .int .u64 (((q + (2 * p)) : Nat) : Int))] (Pl.subl_cons rfl (Pl.subl_cons rfl (Pl.subl_cons rfl (Pl.subl_cons rfl Pl.subl_nil)))) (by omega) ⟨g, (T' + 1), (j + 1), _, rfl, (Pl.Ex.trans hE3 hE4), (by omega), (by omega), (by omega), (by rw [hq]; exact pj_next p j), (eno_no hen hq (fun h => c3 (hbp.2 h)) (by omega)), rfl⟩
    · refine Pl.qA_b (v := .bool false) (fun X => Pl.r_gtr (decide_eq_false (by omega)) X) trivial rfl rfl rfl rfl rfl rfl ?_
      refine Pl.pA_end ?_
      repeat refine Pl.V_seq ?_
      refine Pl.V_false rfl ?_
      repeat refine Pl.V_seq ?_
      refine Pl.V_exit ?_
      repeat refine Pl.V_seq ?_
      refine Pl.V_region (by kernel_rfl) ?_
      refine Pl.qA_go trivial rfl ?_
      refine Pl.pA_end ?_
      repeat refine Pl.V_seq ?_
      exact Pl.post_ret rfl rfl  (⟨true, rfl, fun _ => rfl, (Pl.Ex.trans hE1 (Pl.Ex.trans hE2 hE3))⟩)
end Go.Proofs.YtbdmncpibnligaaGreatDoor
