/- Sums of products, carried. -/
import Derived.Test.YtbdmncpibnligaaGreatDoorBat
import Derived.Test.YtbdmncpibnligaaGreatDoorBar
import Derived.Test.YtbdmncpibnligaaGreatDoorBas
import Derived.Laws.IdiomArrays
import Derived.WideKeyPair
import Derived.WideKeyArr2

namespace Go.Proofs.YtbdmncpibnligaaGreatDoor
open Go.RowKit
set_option linter.unusedVariables false
set_option maxHeartbeats 400000

/-- The number that sums of products are, the lowest first. -/
def cval : List Nat → Nat
  | [] => 0
  | x :: xs => x + LB * cval xs
theorem cval_append (xs ys : List Nat) : cval (xs ++ ys) = cval xs + LB ^ xs.length * cval ys := by
  induction xs with
  | nil => simp [cval]
  | cons x xs ih =>
    simp only [List.cons_append, cval, ih, List.length_cons, Nat.pow_succ]
    rw [Nat.mul_add, Nat.add_assoc]
    congr 2
    rw [← Nat.mul_assoc, Nat.mul_comm LB]
theorem cval_take_succ (xs : List Nat) (k : Nat) (h : k < xs.length) : cval (xs.take (k + 1)) = cval (xs.take k) + LB ^ k * lb xs k := by
  have e : xs.take (k + 1) = xs.take k ++ [lb xs k] := by
    rw [List.take_add_one, List.getElem?_eq_getElem h]
    unfold lb
    rw [List.getElem?_eq_getElem h]; rfl
  rw [e, cval_append, List.length_take, Nat.min_eq_left (by omega)]
  simp [cval]
structure CaI (cs : List Nat) (n k : Nat) (o : List Nat) (T : Nat) : Prop where
  len : o.length = n
  lt : ∀ x ∈ o, x < 4294967296
  val : val o + LB ^ k * T = cval (cs.take k)
  out : ∀ m, k ≤ m → lb o m = 0
  tb : T < 36893488147419103232
theorem CaI.step {cs : List Nat} {n k : Nat} {o : List Nat} {T : Nat} (h : CaI cs n k o T) (hk : k < n) (hkc : k < cs.length) (S : Nat) (hS : lb cs k = S) (hSb : S < 79228162514264337593543950336) (z T' : Nat) (hz : (T + S) % 4294967296 = z) (hT : (T + S) / 4294967296 = T') :
    CaI cs n (k + 1) (o.set k z) T' := by
  have hb := h.tb
  refine ⟨by simp [h.len], set_lt h.lt (by omega), ?_, fun m hm => by rw [lb_set_other _ (by omega)]; exact h.out m (by omega), by omega⟩
  have hset := lval_set o k z (by rw [h.len]; exact hk)
  rw [h.out k (Nat.le_refl _), Nat.mul_zero, Nat.add_zero] at hset
  rw [cval_take_succ _ _ hkc, hS, hset, ← h.val, Nat.pow_succ, Nat.mul_assoc, Nat.add_assoc, ← Nat.mul_add, Nat.add_assoc, ← Nat.mul_add]
  congr 2
  unfold LB
  omega
end Go.Proofs.YtbdmncpibnligaaGreatDoor
/- Products by whichever way; powers. -/
namespace Go.Proofs.YtbdmncpibnligaaGreatDoor
open Go.RowKit
set_option linter.unusedVariables false
set_option maxHeartbeats 400000

theorem mul_calls' (w : World) (va vb : Value) (xs ys : List Nat) (ha : U w va xs) (hb : U w vb ys) (hla : xs.length ≤ 1000) (hlb : ys.length ≤ 1000) (h398 : min xs.length ys.length ≤ 398) :
    Calls Tryz.prog 44 #[va, vb] w fun e w' => (∃ u, e = .returned u ∧ Un w' u (val xs * val ys)) ∧ Ext w w' := by
  obtain ⟨A, ca, rfl, hca⟩ := ha.shape
  obtain ⟨A2, cb, rfl, hcb⟩ := hb.shape
  have hSc := Lib.hid (school_calls w _ _ xs ys ha hb hla hlb)
  have hKa := Lib.hid (karat_calls w _ _ xs ys ha hb hla hlb)
  have hTo := Lib.hid (toom_calls w _ _ xs ys ha hb hla hlb h398)
  generalize xs.length = lx at *
  generalize ys.length = ly at *
  obtain ⟨m, hm⟩ : ∃ m, min lx ly = m := ⟨_, rfl⟩
  have hm1 : (if (ly : Int) < (lx : Int) then (ly : Int) else (lx : Int)) = (m : Int) := by split <;> omega
  have hm3 : (if ly < lx then (ly : Int) else (lx : Int)) = (m : Int) := by split <;> omega
  obtain ⟨q, hq⟩ : ∃ q, (m + 1) / 2 = q := ⟨_, rfl⟩
  have hqi : ((m : Int) + 1) / 2 = (q : Int) := by omega
  have hq200 : q < 200 := by omega
  clear ha hb hm hq h398
  by_cases h40 : q < 40
  · have hd : decide ((q : Int) < 40) = true := by rw [decide_eq_true_iff]; omega
    go_enter Tryz.func44, Tryz.ntmps44
    go_wp2_with (fail)
    refine hSc.out.mono ?_
    rintro e w1 ⟨⟨u, rfl, hu⟩, hB⟩
    have HF : Hid (∃ u', Ending.returned u = .returned u' ∧ Un w1 u' (val xs * val ys)) := ⟨_, rfl, hu⟩
    clear hu
    go_wp2
    go_ret
    exact ⟨HF.out, hB⟩
  · have hd : decide ((q : Int) < 40) = false := by rw [decide_eq_false_iff_not]; omega
    have hd2 : decide ((q : Int) < 200) = true := by rw [decide_eq_true_iff]; omega
    go_enter Tryz.func44, Tryz.ntmps44
    go_wp2_with (fail)
    refine hKa.out.mono ?_
    rintro e w1 ⟨⟨u, rfl, hu⟩, hB⟩
    have HF : Hid (∃ u', Ending.returned u = .returned u' ∧ Un w1 u' (val xs * val ys)) := ⟨_, rfl, hu⟩
    clear hu
    go_wp2
    go_ret
    exact ⟨HF.out, hB⟩

/-- A number of at most so many limbs. -/
theorem len_of {n k : Nat} (h : n < LB ^ k) : (limbs n).length ≤ k := len_le_of_lt h
theorem U.asUn {w : World} {v : Value} {n : Nat} (h : Un w v n) : U w v (limbs n) := h
end Go.Proofs.YtbdmncpibnligaaGreatDoor
/- Quotient and rest, word by word. -/
namespace Go.Proofs.YtbdmncpibnligaaGreatDoor
open Go.RowKit
set_option linter.unusedVariables false
set_option maxHeartbeats 400000

theorem bb_two (n : Nat) : BB ^ n = 2 ^ (64 * n) := by
  rw [Nat.pow_mul, show (2 : Nat) ^ 64 = BB from by decide]
theorem lb_two (n : Nat) : (4294967296 : Nat) ^ n = 2 ^ (32 * n) := by
  rw [Nat.pow_mul, show (2 : Nat) ^ 32 = 4294967296 from by decide]
theorem bb_lb (n : Nat) : BB ^ n = 4294967296 ^ (2 * n) := by
  rw [bb_two, lb_two]; congr 1; omega
/-- What is shifted so that the divisor's first bit is set. -/
theorem words_math (b L n sh V : Nat) (hL : (limbs b).length = L) (h2 : 2 ≤ L) (hn : (L + 1) / 2 = n) (hsh : 64 * n - blen b = sh) (hV : b * 2 ^ sh = V) :
    blen b ≤ 64 * n ∧ sh ≤ 64 ∧ V < BB ^ n ∧ 9223372036854775808 * BB ^ (n - 1) ≤ V ∧ (limbs V).length ≤ 2 * n := by
  have h1 : blen b ≤ 32 * L := by rw [← hL]; exact blen_le_len b
  have h3 : 4294967296 ^ (L - 1) ≤ b := le_of_lt_len (by omega)
  rw [lb_two] at h3
  have h4 := lt_blen_of_le h3
  have hb0 : b ≠ 0 := by
    intro e
    rw [e, limbs_zero] at hL
    simp at hL; omega
  have h5 := lt_pow_blen b
  have h6 := pow_blen_le hb0
  have h7 : V < BB ^ n := by
    rw [← hV, bb_two, show 64 * n = blen b + sh by omega, Nat.pow_add]
    exact Nat.mul_lt_mul_of_pos_right h5 (Nat.two_pow_pos _)
  refine ⟨by omega, by omega, h7, ?_, len_le_of_lt (by rw [← bb_lb]; exact h7)⟩
  have h8 : 2 ^ (blen b - 1) * 2 ^ sh ≤ V := by rw [← hV]; exact Nat.mul_le_mul_right _ h6
  rw [← Nat.pow_add, show blen b - 1 + sh = 63 + 64 * (n - 1) by omega, Nat.pow_add, ← bb_two, show (2 : Nat) ^ 63 = 9223372036854775808 from by decide] at h8
  exact h8
theorem words_high (A lA n m : Nat) (hA : (limbs A).length = lA) (hm : max ((lA + 1) / 2) n + 1 = m) : A < BB ^ (m - 1) := by
  have h1 := lt_pow_len A
  rw [hA] at h1
  refine Nat.lt_of_lt_of_le h1 ?_
  rw [bb_lb]
  exact Nat.pow_le_pow_right (by decide) (by omega)
theorem words_top (vs : List Nat) (k V : Nat) (hl : vs.length = k + 1) (hx : ∀ x ∈ vs, x < 18446744073709551616) (hv : wal vs = V) (h : 9223372036854775808 * BB ^ k ≤ V) : 9223372036854775808 ≤ lb vs k := by
  have h1 := wal_lt_top vs k hl hx
  rw [hv, Nat.mul_comm] at h1
  have h2 : 9223372036854775808 * BB ^ k < (lb vs k + 1) * BB ^ k := by omega
  have := Nat.lt_of_mul_lt_mul_right h2
  omega

set_option maxRecDepth 100000 in
set_option maxHeartbeats 8000000 in
theorem words_calls (w : World) (va vb : Value) (a b q r : Nat) (ha : Un w va a) (hb : Un w vb b) (hla : (limbs a).length ≤ 1000) (hlb : (limbs b).length ≤ 1000) (h2 : 2 ≤ (limbs b).length) (hq : a / b = q) (hr : a % b = r) :
    Calls Tryz.prog 84 #[va, vb] w fun e w' => (∃ x y, e = .returned (.tuple #[x, y]) ∧ Un w' x q ∧ Un w' y r) ∧ Ext w w' := by
  obtain ⟨L, hL⟩ : ∃ L, (limbs b).length = L := ⟨_, rfl⟩
  obtain ⟨n, hn⟩ : ∃ n, (L + 1) / 2 = n := ⟨_, rfl⟩
  obtain ⟨bl, hbl⟩ : ∃ bl, blen b = bl := ⟨_, rfl⟩
  obtain ⟨sh, hsh⟩ : ∃ sh, 64 * n - bl = sh := ⟨_, rfl⟩
  obtain ⟨V0, hV⟩ : ∃ V0, b * 2 ^ sh = V0 := ⟨_, rfl⟩
  obtain ⟨A0, hA⟩ : ∃ A0, a * 2 ^ sh = A0 := ⟨_, rfl⟩
  rw [hL] at hlb h2
  obtain ⟨m1, m2, m3, m4, m5⟩ := words_math b L n sh V0 hL h2 hn (by rw [hbl]; exact hsh) hV
  rw [hbl] at m1
  obtain ⟨lA, hlA⟩ : ∃ lA, (limbs A0).length = lA := ⟨_, rfl⟩
  have hlA2 : lA ≤ 1002 := by rw [← hlA, ← hA]; exact Nat.le_trans (len_shl_c a 1000 sh 2 hla (by omega)) (by omega)
  obtain ⟨h, hh⟩ : ∃ h, (lA + 1) / 2 = h := ⟨_, rfl⟩
  obtain ⟨mx, hmx⟩ : ∃ mx, max h n = mx := ⟨_, rfl⟩
  obtain ⟨m, hm⟩ : ∃ m, mx + 1 = m := ⟨_, rfl⟩
  have hAlt := words_high A0 lA n m hlA (by rw [hh, hmx]; exact hm)
  obtain ⟨k, hk⟩ : ∃ k, m - n = k := ⟨_, rfl⟩
  have hkm : k + n = m := by omega
  have hk1 : 1 ≤ k := by omega
  have hn1 : 1 ≤ n := by omega
  have hnb : n ≤ 501 := by omega
  have hmb : m ≤ 503 := by omega
  obtain ⟨n1, hn1e⟩ : ∃ n1, n = n1 + 1 := ⟨n - 1, by omega⟩
  have HBits := Lib.hid (bits_B w vb b hb (by omega) (bl : Int) (by rw [hbl]))
  have HShb := Lib.hid (fun W v (h : Un W v b) => shl_B W v b (sh : Int) h (Int.natCast_nonneg _) (by omega) (by omega) V0 (by rw [Int.toNat_natCast]; exact hV))
  have HSha := Lib.hid (fun W v (h : Un W v a) => shl_B W v a (sh : Int) h (Int.natCast_nonneg _) (by omega) (by omega) A0 (by rw [Int.toNat_natCast]; exact hA))
  have HPv := Lib.hid (fun W v (h : Un W v V0) => dpack_calls W v (limbs V0) h (by omega) n (by omega) (by omega))
  have HPa := Lib.hid (fun W v (h : Un W v A0) => dpack_calls W v (limbs A0) h (by omega) m (by rw [hlA]; omega) (by omega))
  have HTOP : Hid (∀ vs : List Nat, vs.length = n → (∀ x ∈ vs, x < 18446744073709551616) → wal vs = V0 → 9223372036854775808 ≤ lb vs n1) := fun vs e1 e2 e3 => words_top vs n1 V0 (by omega) e2 e3 (by rw [show n1 = n - 1 by omega]; exact m4)
  have HST0 : Hid (∀ o : List Nat, o.length = m → (∀ x ∈ o, x < 18446744073709551616) → wal o = A0 → WdI V0 A0 n m k o (List.replicate k 0)) := fun o e1 e2 e3 => WdI.start V0 A0 n m o k hkm (by omega) e1 e2 e3 hAlt (Nat.le_trans (Nat.le_mul_of_pos_left _ (by decide)) m4)
  have HLT := Lib.hid m3
  obtain ⟨R0, hR0⟩ : ∃ R0, r * 2 ^ sh = R0 := ⟨_, rfl⟩
  have HDN : Hid (∀ o ql, WdI V0 A0 n m 0 o ql → wal ql = q ∧ wal (o.take n) = R0) := fun o ql h => by
    obtain ⟨d1, d2⟩ := h.done m3 (by omega)
    rw [← hA, ← hV, Nat.mul_div_mul_right _ _ (Nat.two_pow_pos sh), hq] at d1
    rw [← hA, ← hV, Nat.mul_mod_mul_right, hr, hR0] at d2
    exact ⟨d1.symm, d2⟩
  have hrb : (limbs R0).length ≤ 1002 := by
    rw [← hR0]
    refine Nat.le_trans (len_shl_c r 1000 sh 2 ?_ (by omega)) (by omega)
    exact Nat.le_trans (len_mono (by rw [← hr]; exact Nat.mod_le _ _)) hla
  have HShr := Lib.hid (fun W v (h : Un W v R0) => shr_B W v R0 (sh : Int) h (Int.natCast_nonneg _) (by omega) (by omega) r (by rw [Int.toNat_natCast, ← hR0]; exact Nat.mul_div_cancel _ (Nat.two_pow_pos sh)))
  have HNN := Lib.hid (And.intro hn1e (And.intro hkm (And.intro hk1 (And.intro hn1 (And.intro hnb hmb)))))
  have e1 : ((L : Int) + 1) / 2 = (n : Int) := by omega
  have e2 : ((L : Int) + 1).tdiv 2 = (n : Int) := by rw [Int.tdiv_eq_ediv_of_nonneg (by omega)]; exact e1
  have e3 : (64 : Int) * (n : Int) - (bl : Int) = (sh : Int) := by omega
  have e4 : ((lA : Int) + 1) / 2 = (h : Int) := by omega
  have e5 : ((lA : Int) + 1).tdiv 2 = (h : Int) := by rw [Int.tdiv_eq_ediv_of_nonneg (by omega)]; exact e4
  have e6 : (if (h : Int) < (n : Int) then (n : Int) else (h : Int)) = (mx : Int) := by split <;> omega
  have e7 : (if h < n then (n : Int) else (h : Int)) = (mx : Int) := by split <;> omega
  have e8 : (mx : Int) + 1 = (m : Int) := by omega
  have e9 : (m : Int) - (n : Int) = (k : Int) := by omega
  have HBD := Lib.hid (And.intro hlb (And.intro hlA2 (show bl ≤ 64 * 501 by omega)))
  obtain ⟨Ab, cb, rfl, hcb⟩ := hb.shape
  rw [hL] at HBits
  have hb' : Un w (.slice Ab (limbs b).length cb) b := hb
  rw [hL] at hb' ⊢
  have HLA := Lib.hid hlA
  have hEw := Ext.refl w
  clear hb hL hn hbl hsh hV hA hlA hh hmx hm hk m1 m3 m4 m5 hAlt hq hr hR0 hn1e hkm hk1 hn1 hcb
  go_enter Tryz.func84, Tryz.ntmps84
  go_wp2_with (fail)
  refine HBits.out.mono ?_
  rintro e w1 ⟨rfl, hB⟩
  replace hb' := U.below (U.asUn hb') hB
  replace ha := U.below (U.asUn ha) hB
  replace hEw := hEw.below hB
  clear hB HBits
  go_wp2_with (fail)
  refine (HShb.out _ _ hb').mono ?_
  rintro e w2 ⟨v2, rfl, hv2, hB⟩
  replace ha := U.below (U.asUn ha) hB
  replace hEw := hEw.below hB
  clear hB HShb hb'
  go_wp2_with (fail)
  have hs2 := hEw.size
  refine (HPv.out _ _ hv2).mono ?_
  rintro e w3 ⟨rfl, ⟨vs, hov, hwv, hxv, hlv⟩, hB⟩
  rw [val_limbs] at hwv
  replace hov := hov.base_mono hs2
  replace ha := U.below (U.asUn ha) hB
  replace hEw := hEw.below hB
  clear hB HPv hv2
  generalize w2.heap.size = gv at *
  go_wp2_with (fail)
  refine (HSha.out _ _ ha).mono ?_
  rintro e w4 ⟨va4, rfl, hva, hB⟩
  replace hov := hov.ext hB
  replace hEw := hEw.below hB
  clear hB HSha ha
  obtain ⟨Aa, ca, rfl, hca⟩ := U.shape (U.asUn hva)
  rw [HLA.out] at hva ⊢
  go_wp2_with (fail)
  have hs4 := hEw.size
  have hvb := hov.block
  refine (HPa.out _ _ hva).mono ?_
  rintro e w5 ⟨rfl, ⟨o, hoa, hwa, hxa, hlo⟩, hB⟩
  rw [val_limbs] at hwa
  have hne1 : gv ≠ w4.heap.size := by omega
  replace hoa := hoa.base_mono hs4
  replace hov := hov.ext hB
  replace hEw := hEw.below hB
  clear hB HPa hva hca hvb
  generalize w4.heap.size = gu at *
  have hST := HST0.out o hlo hxa hwa
  have HSS := Lib.hid hST
  have htop := HTOP.out vs hlv hxv hwv
  have hs5 := hEw.size
  have hub := hoa.block
  have hvb := hov.block
  have hne2 : gu ≠ w5.heap.size := by omega
  have hne3 : gv ≠ w5.heap.size := by omega
  obtain ⟨i0, hi, hz0, hz1, hz2⟩ := info_parts info64
  have hkb : k ≤ 503 := by have := HNN.out; omega
  have hmb : m ≤ 503 := by have := HNN.out; omega
  have hnb : n ≤ 501 := by have := HNN.out; omega
  have HTP := Lib.hid htop
  have HWV := Lib.hid hwv
  have HXV := Lib.hid hxv
  clear hST htop hwv hxv hwa hxa HST0 HTOP
  go_wp2_with (at_make; refine wpList_make_full _ rfl _ _ 92 rfl w5.heap.size 49 i0 (.int .u64 0) 1 Tryz.underlying92 hi hz0 hz1 _ _ _ _ k rfl rfl (by omega) (by omega) (by rw [hz2]; omega) (by unfold maxLen; omega) (Nat.le_refl _) ?_; intro w6 hown hgrow)
  have hoq := Ow.zeros hown
  have hE6 : Ext w5 w6 := (Ext.refl w5).grown hgrow (Nat.le_refl _) (fun _ h => by cases h)
  replace hoq := hoq.base_mono hs5
  replace hoa := hoa.ext hE6
  replace hov := hov.ext hE6
  replace hEw := hEw.below hE6
  generalize w5.heap.size = gq at *
  have hgu := hoa.block.1
  clear hown hgrow hi hz0 hz1 hz2 i0 hE6 hub hvb hs2 hs4 hs5
  go_wp2
  go_loopw [11] (fun t wr => ∃ (j : Nat) (z : Int) (o ql : List Nat), j ≤ k ∧ t = .int .i64 z ∧ z = (j : Int) - 1 ∧ Hid (WdI V0 A0 n m j o ql) ∧ Ow wr w.heap.size (.slice (some ⟨gu, 0, none⟩) m m) o ∧ Ow wr w.heap.size (.slice (some ⟨gq, 0, none⟩) k k) ql ∧ Ow wr w.heap.size (.slice (some ⟨gv, 0, none⟩) n n) vs ∧ Ext w wr) (fun t _ => (intOf t + 1).toNat)
  case atStart => exact ⟨k, _, _, _, Nat.le_refl _, rfl, rfl, HSS, hoa, hoq, hov, hEw⟩
  case round =>
    clear hoa hoq hov hEw HSS
    obtain ⟨j, z, o, ql, hj, rfl, hz, HO, hoa, hoq, hov, hE⟩ := hrel
    cases j with
    | zero =>
      obtain rfl : z = -1 := by omega
      obtain ⟨d1, d2⟩ := HDN.out o ql HO.out
      have hq0 := hoq.toV HO.out.xq (gq + 1) (by omega)
      have hlq : ql.length ≤ 1000000 := by have := HO.out.lq; omega
      have hu0 := (hoa.toV HO.out.xo (gu + 1) (by omega)).take (k := n) (c' := m) (by have := HNN.out; omega) (by have := HNN.out; omega)
      have hun : (o.take n).length ≤ 1000000 := by rw [List.length_take]; omega
      have HU1 := Lib.hid (dunpack_calls _ _ _ _ (V.below hq0 ((Ext.refl wr).drew)) hlq q d1)
      have HU2 := Lib.hid (fun W (h : V (gu + 1) W (.slice (some ⟨gu, 0, none⟩) n m) (o.take n)) => dunpack_calls W _ _ _ h hun R0 d2)
      have hu1 := V.below hu0 ((Ext.refl wr).drew)
      have b1 : (n : Int) ≤ (m : Int) := by have := HNN.out; omega
      have b2 : n ≤ m := by have := HNN.out; omega
      have b3 : (0 : Int) ≤ (n : Int) := Int.natCast_nonneg n
      clear d1 d2 hq0 hlq hun hu0 hoa hoq hov HO HDN hz HTP HWV HXV HNN
      go_wp2_with (fail)
      go_region_held3 (fun X => True)
        (first
          | exact trivial)
        (first
          | (go_at_call 104; ((with_reducible refine HU1.out.mono ?_); rintro e wa ⟨⟨x1, rfl, hx1⟩, hB1⟩; have hu2 := hu1.below hB1))
          | (go_at_call 104; ((with_reducible refine (HU2.out _ hu2).mono ?_); rintro e wb ⟨⟨x2, rfl, hx2⟩, hB2⟩; have hx1b := U.below (U.asUn hx1) hB2))
          | (go_at_call 39; ((with_reducible refine (HShr.out _ _ hx2).mono ?_); rintro e wc ⟨x3, rfl, hx3, hB3⟩; have hx1c := U.below hx1b hB3)))
      have HF : Hid (∃ x y, Ending.returned (.tuple #[x1, x3]) = .returned (.tuple #[x, y]) ∧ Un wc x q ∧ Un wc y r) := ⟨_, _, rfl, hx1c, hx3⟩
      have hEF := ((hE.drew.below hB1).below hB2).below hB3
      clear hx1 hx2 hx3 hx1b hx1c hB1 hB2 hB3 hu1 hu2 HU1 HU2 HShr hE
      go_wp2
      go_ret2
      exact ⟨HF.out, hEF⟩
    | succ j =>
      obtain rfl : z = (j : Int) := by omega
      obtain ⟨hn1e, hkm, hk1, hn1, -, -⟩ := HNN.out
      obtain ⟨p1, p2, p3, p4⟩ := wd_part HO.out (by omega) HLT.out
      have hoa1 : Ow wr w.heap.size (.slice (some ⟨gu, 0, none⟩) m m) (Sg (o.take j) ((o.drop j).take (n + 1)) ((o.drop j).drop (n + 1))) := by rw [← sg_cut]; exact hoa
      have hV0 : V gu wr (.slice (some ⟨gv, 0, none⟩) n n) vs := hov.toV HXV.out gu hne1
      have hDig := Lib.hid (digit_calls wr gu w.heap.size m m j (m - j) _ _ _ vs _ hoa1 (fun x hx => HO.out.xo x (List.mem_of_mem_drop (List.mem_of_mem_take hx))) p4 n n1 hn1e p1 hlv (by omega) (by omega) hV0 HTP.out (by rw [HWV.out]; exact p2))
      have i1 : (j : Int) + (n : Int) + 1 ≤ (m : Int) := by omega
      have i2 : (j : Int) ≤ (j : Int) + (n : Int) + 1 := by omega
      have i3 : j ≤ m := by omega
      have i4 : j + n + 1 - j = n + 1 := by omega
      have i5 : ((j : Int) + (n : Int) + 1).toNat = j + n + 1 := by omega
      have i6 : j < k := by omega
      have i7 : j + 1 + n ≤ m := by omega
      clear hn1e hkm hk1 hn1 p1 p2 p3 p4 hoa1 hV0 hoa hz
      go_wp2_with (fail)
      refine hDig.out.mono ?_
      rintro e w7 ⟨⟨d, s', rfl, hd, hsl, hsx, hdm, hdv, hoa2⟩, hB⟩
      have HSN : Hid (WdI V0 A0 n m j (Sg (o.take j) s' ((o.drop j).drop (n + 1))) (ql.set j d)) := HO.out.step i7 HLT.out d (wal s') s' hsl hsx hd (by rw [← HWV.out]; exact hdm) rfl (by rw [← HWV.out]; exact hdv)
      have hq2 := hoq.but hB (show gq ≠ gu by omega)
      have hov2 := hov.but hB (show gv ≠ gu by omega)
      have hf := hq2.frozen j
      have hcz := hq2.cell (j := j) i6
      have hq3 := hq2.set_ j d
      have hBq : But gq w7 (w7.setCell ⟨gq, j, none⟩ (.int .u64 (d : Nat))) := (But.refl gq w7).setCell j _
      have hoa3 := hoa2.but hBq (show gu ≠ gq by omega)
      have hov3 := hov2.but hBq (show gv ≠ gq by omega)
      have hgq := hq2.block.1
      have hE3 := (hE.but hB hgu).setCell (p := ⟨gq, j, none⟩) hgq (.int .u64 (d : Nat))
      clear hDig hsl hsx hdm hdv hoa2 hB hq2 hov2 hBq hoq hov hE HO hd
      go_wp2
      go_roundw
      case rel => exact ⟨j, _, _, _, by omega, rfl, rfl, HSN, hoa3, hq3, hov3, hE3⟩
      case measure => simp [intOf]
end Go.Proofs.YtbdmncpibnligaaGreatDoor
/- Powers; live questions. -/
namespace Go.Proofs.YtbdmncpibnligaaGreatDoor
open Go.RowKit
set_option linter.unusedVariables false
set_option maxHeartbeats 400000

theorem limbs_small (x : Nat) (h0 : x ≠ 0) (h : x < 4294967296) : limbs x = [x] := by
  rw [limbs_pos h0, Nat.mod_eq_of_lt h, Nat.div_eq_of_lt h, limbs_zero]
theorem pow_half (a n i : Nat) : a ^ (n / 2 ^ i) = a ^ (n / 2 ^ (i + 1)) * a ^ (n / 2 ^ (i + 1)) * (if n / 2 ^ i % 2 = 1 then a else 1) := by
  have e : n / 2 ^ (i + 1) = n / 2 ^ i / 2 := by rw [Nat.pow_succ, Nat.div_div_eq_div_mul]
  rw [e, ← Nat.pow_add]
  split
  · rw [← Nat.pow_succ]; congr 1; omega
  · rw [Nat.mul_one]; congr 1; omega

end Go.Proofs.YtbdmncpibnligaaGreatDoor
/- Live questions, whose answers are fixed. -/
namespace Go.Proofs.YtbdmncpibnligaaGreatDoor
open Go.RowKit
set_option linter.unusedVariables false
set_option maxHeartbeats 400000

theorem Un_lit1 (w : World) (N : Nat) (hN : w.heap.size = N) (x : Nat) (h0 : x ≠ 0) (h : x < 4294967296) : Un (w.alloc (.cells #[.int .u32 (x : Nat)] 36)) (.slice (some ⟨N, 0, none⟩) 1 1) x := by
  subst hN
  have := U_lit w [x] (by simpa using h) (by simp)
  rw [Un, limbs_small x h0 h]
  exact this
end Go.Proofs.YtbdmncpibnligaaGreatDoor
/- Division by school, and whatever goes to it. -/
namespace Go.Proofs.YtbdmncpibnligaaGreatDoor
open Go.RowKit
set_option linter.unusedVariables false
set_option maxHeartbeats 400000

theorem limbs_one {b : Nat} (h : (limbs b).length = 1) : b < 4294967296 ∧ b ≠ 0 ∧ lb (limbs b) 0 = b := by
  have h1 := lt_of_len_le (show (limbs b).length ≤ 1 by omega)
  rw [Nat.pow_one] at h1
  have h0 : b ≠ 0 := by
    intro e; rw [e, limbs_zero] at h; simp at h
  refine ⟨h1, h0, ?_⟩
  rw [lb_limbs, Nat.pow_zero, Nat.div_one, Nat.mod_eq_of_lt h1]
theorem limbs_nz {b : Nat} (h : b ≠ 0) : 0 < (limbs b).length := by
  rcases Nat.eq_zero_or_pos (limbs b).length with e | e
  · exact absurd (limbs_eq_nil.1 (List.length_eq_zero_iff.1 e)) h
  · exact e

/-- A division's answer. -/
def Dv (w w' : World) (e : Ending) (q r : Nat) : Prop := (∃ x y, e = .returned (.tuple #[x, y, .int .i64 0]) ∧ Un w' x q ∧ Un w' y r) ∧ Ext w w'
set_option maxRecDepth 100000 in
set_option maxHeartbeats 8000000 in
theorem school_D (w : World) (va vb : Value) (a b q r : Nat) (ha : Un w va a) (hb : Un w vb b) (hla : (limbs a).length ≤ 1000) (hlb : (limbs b).length ≤ 1000) (h0 : b ≠ 0) (hq : a / b = q) (hr : a % b = r) :
    Calls Tryz.prog 63 #[va, vb] w fun e w' => Dv w w' e q r := by
  unfold Dv
  have hnz := limbs_nz h0
  obtain ⟨Ab, cb, rfl, hcb⟩ := U.shape (U.asUn hb)
  obtain ⟨L, hL⟩ : ∃ L, (limbs b).length = L := ⟨_, rfl⟩
  obtain ⟨k, hk⟩ : ∃ k, cmpI (a : Int) (b : Int) = k := ⟨_, rfl⟩
  have hCmp := Lib.hid (cmp_B w va _ a b ha hb k hk)
  have hb2 := hb
  rw [hL] at hnz hlb hb2 hCmp ⊢
  have hL0 : ((L : Int) == 0) = false := by rw [beq_eq_false_iff_ne]; omega
  have hL02 : ¬ L = 0 := by omega
  have hEw := Ext.refl w
  rcases Nat.lt_or_ge a b with hlt | hge
  · have hq0 : q = 0 := by rw [← hq]; exact Nat.div_eq_of_lt hlt
    have hr0 : r = a := by rw [← hr]; exact Nat.mod_eq_of_lt hlt
    have hk1 : k = -1 := by rw [← hk]; exact cmpI_lt (by omega)
    subst hq0 hr0 hk1
    clear hq hr hk hlt hb hb2 hL hcb hla hlb
    go_enter Tryz.func63, Tryz.ntmps63
    go_wp2_with (fail)
    refine hCmp.out.mono ?_
    rintro e w1 ⟨rfl, hB⟩
    replace ha := U.below (U.asUn ha) hB
    replace hEw := hEw.below hB
    have HF : Hid (∃ x y, Ending.returned (.tuple #[.slice none 0 0, va, .int .i64 0]) = .returned (.tuple #[x, y, .int .i64 0]) ∧ Un w1 x 0 ∧ Un w1 y r) := ⟨_, _, rfl, Un_nil _, ha⟩
    clear hB hCmp ha
    go_wp2
    go_ret3
    exact ⟨HF.out, hEw⟩
  · have hk1 : ¬ k < 0 := by
      rw [← hk]
      rcases Nat.lt_or_ge b a with h | h
      · rw [cmpI_gt (by omega)]; decide
      · rw [show a = b by omega, cmpI_eq]; decide
    have hk2 : decide (k < 0) = false := by rw [decide_eq_false_iff_not]; exact hk1
    by_cases h1 : L = 1
    · obtain ⟨b1, b2, b3⟩ := limbs_one (hL.trans h1)
      have hS := Lib.hid (fun W (h : Un W va a) => small_calls W va a b h (by omega) b1 h0 q r hq hr)
      have hL1 : ((L : Int) == 1) = true := by rw [beq_iff_eq]; omega
      obtain ⟨ad, rfl, hbk, hcell⟩ : ∃ ad, Ab = some ad ∧ ad.block < w.heap.size ∧ w.cell? ad = some (.int .u32 (b : Nat)) := by
        obtain ⟨A', c', hv, _, _, hr'⟩ := hb
        obtain ⟨ad, e1, e2, e3⟩ := hr' (by omega)
        injection hv with hv1
        have := e3 0 (by omega)
        rw [addr_add_zero, b3] at this
        exact ⟨ad, by rw [hv1, e1], e2, this⟩
      have hrb : r < 4294967296 := by rw [← hr]; exact Nat.lt_trans (Nat.mod_lt _ (by omega)) b1
      have HRB := Lib.hid hrb
      subst h1
      clear hq hr hk hge b1 b2 b3 hb hb2 hL hla hlb h0 hrb hL02
      go_enter Tryz.func63, Tryz.ntmps63
      go_wp2_with (fail)
      refine hCmp.out.mono ?_
      rintro e w1 ⟨rfl, hB⟩
      replace ha := U.below (U.asUn ha) hB
      replace hEw := hEw.below hB
      have hcell1 := (hB.cell (p := ad) hbk).trans hcell
      clear hB hCmp hcell
      go_wp2_with (fail)
      refine (hS.out _ ha).mono ?_
      rintro e w2 ⟨⟨x, rfl, hx⟩, hB⟩
      replace hEw := hEw.below hB
      have HU : Hid (U (w2.alloc (.cells #[.int .u32 (r : Nat)] 36)) (.slice (some ⟨w2.heap.size, 0, none⟩) 1 1) [r]) := U_lit w2 [r] (by simpa using HRB.out) (by simp)
      have HMK : Hid (∀ W v, U W v [r] → Calls Tryz.prog 58 #[v] W fun e w' => ∃ u, e = .returned u ∧ Un w' u r ∧ Ext W w') := fun W v h => make_B W v [r] h r (by simp [val])
      clear hB hS hcell1 ha
      go_wp2_with (fail)
      refine (HMK.out _ _ HU.out).mono ?_
      rintro e w3 ⟨y, rfl, hy, hB⟩
      have HF : Hid (∃ x' y', Ending.returned (.tuple #[x, y, .int .i64 0]) = .returned (.tuple #[x', y', .int .i64 0]) ∧ Un w3 x' q ∧ Un w3 y' r) := ⟨_, _, rfl, U.below (U.alloc (U.asUn hx) _) hB, hy⟩
      have hEF := (hEw.alloc _).below hB
      clear hx hy hB HU HMK hEw
      go_wp2
      go_ret3
      exact ⟨HF.out, hEF⟩
    · have hL1 : ((L : Int) == 1) = false := by rw [beq_eq_false_iff_ne]; omega
      have hW := Lib.hid (fun W (h : Un W va a) (h' : Un W (.slice Ab L cb) b) => words_calls W va _ a b q r h h' hla (by omega) (by omega) hq hr)
      clear hq hr hk hge hb hL hla hlb h0
      go_enter Tryz.func63, Tryz.ntmps63
      go_wp2_with (fail)
      refine hCmp.out.mono ?_
      rintro e w1 ⟨rfl, hB⟩
      replace ha := U.below (U.asUn ha) hB
      replace hb2 := U.below (U.asUn hb2) hB
      replace hEw := hEw.below hB
      clear hB hCmp
      go_wp2_with (fail)
      refine (hW.out _ ha hb2).mono ?_
      rintro e w2 ⟨⟨x, y, rfl, hx, hy⟩, hB⟩
      replace hEw := hEw.below hB
      have HF : Hid (∃ x' y', Ending.returned (.tuple #[x, y, .int .i64 0]) = .returned (.tuple #[x', y', .int .i64 0]) ∧ Un w2 x' q ∧ Un w2 y' r) := ⟨_, _, rfl, hx, hy⟩
      clear hx hy hB hW ha hb2
      go_wp2
      go_ret3
      exact ⟨HF.out, hEw⟩
theorem un_zero {w : World} {v : Value} (h : Un w v 0) : ∃ A c, v = .slice A 0 c := by
  obtain ⟨A, c, rfl, hc⟩ := U.shape (U.asUn h)
  exact ⟨A, c, by rw [limbs_zero]; rfl⟩
set_option maxRecDepth 100000 in
set_option maxHeartbeats 8000000 in
theorem divmod_D (w : World) (va vb : Value) (a b q r : Nat) (ha : Un w va a) (hb : Un w vb b) (hla : (limbs a).length ≤ 1000) (hlb : (limbs b).length ≤ 1000) (h0 : b ≠ 0) (hq : a / b = q) (hr : a % b = r) :
    Calls Tryz.prog 43 #[va, vb] w fun e w' => Dv w w' e q r := by
  have hS := Lib.hid (school_D w va vb a b q r ha hb hla hlb h0 hq hr)
  unfold Dv at *
  obtain ⟨Aa, ca, rfl, hca⟩ := U.shape (U.asUn ha)
  obtain ⟨Ab, cb, rfl, hcb⟩ := U.shape (U.asUn hb)
  clear ha hb hq hr h0
  generalize (limbs a).length = la at *
  generalize (limbs b).length = lb_ at *
  obtain ⟨d, hd⟩ : ∃ d : Int, (la : Int) - (lb_ : Int) = d := ⟨_, rfl⟩
  obtain ⟨mn, hmn⟩ : ∃ mn : Int, (if d < (lb_ : Int) then d else (lb_ : Int)) = mn := ⟨_, rfl⟩
  have hm1 : decide ((1600 : Int) ≤ mn) = false := by rw [decide_eq_false_iff_not]; split at hmn <;> omega
  have hm2 : ¬ (1600 : Int) ≤ mn := by split at hmn <;> omega
  have HA := Lib.hid hca
  clear hca hcb
  go_enter Tryz.func43, Tryz.ntmps43
  go_wp2_with (fail)
  refine hS.out.mono ?_
  rintro e w1 ⟨⟨x, y, rfl, hx, hy⟩, hB⟩
  have HF : Hid (∃ x' y', Ending.returned (.tuple #[x, y, .int .i64 0]) = .returned (.tuple #[x', y', .int .i64 0]) ∧ Un w1 x' q ∧ Un w1 y' r) := ⟨_, _, rfl, hx, hy⟩
  clear hx hy hS
  go_wp2
  go_ret3
  exact ⟨HF.out, hB⟩
theorem mulN (w : World) (va vb : Value) (n m k : Nat) (ha : Un w va n) (hb : Un w vb m) (hn : (limbs n).length ≤ 398) (hm : (limbs m).length ≤ 398) (hk : n * m = k) :
    Calls Tryz.prog 44 #[va, vb] w fun e w' => ∃ u, e = .returned u ∧ Un w' u k ∧ Ext w w' := by
  refine (mul_calls' w va vb _ _ ha hb (by omega) (by omega) (by omega)).mono ?_
  rw [val_limbs, val_limbs, hk]
  rintro e w' ⟨⟨u, h1, h2⟩, h3⟩
  exact ⟨u, h1, h2, h3⟩
end Go.Proofs.YtbdmncpibnligaaGreatDoor
/- The arguments of the laws of products. -/
namespace Go.Proofs.YtbdmncpibnligaaGreatDoor
open Go.ChangeShapes Go.WideShapes Go.ChangeAt Go.RowKit
set_option linter.unusedVariables false
set_option maxRecDepth 100000
set_option maxHeartbeats 400000

theorem okWide_arr' {P : Program} {k e : TypeId} {n : Nat} {W : World} (hu : P.underlying k = some (.array n e)) {r : Reach} {b0 : Nat} {v : Value} (h : Value.okWide P W r b0 k v) : ∃ xs : Array Value, v = .agg xs ∧ xs.size = P.cellsOf k := by
  simp only [Value.okWide, hu] at h
  obtain ⟨cs, h1, h2, _⟩ := h
  exact ⟨cs, h1, h2⟩
theorem trod_array2 {H : Type} {enc : TypeId × Value → H} {P : Program} {w : World} {base : Nat} {spare : Nat → Bool} {held : Bool} {t e : TypeId} {fuel : Nat} {c0 c1 : Value} {x : DataW H × List MemPlace} (ht : P.underlying t = some (.array 2 e)) (hce : P.cellsOf e = 1)
    (h : DataW.trod enc P w base spare held fuel t [c0, c1] = some x) :
    ∃ y0 y1 n, DataW.trod enc P w base spare held n e [c0] = some y0 ∧ DataW.trod enc P w base spare held n e [c1] = some y1 := by
  cases fuel with
  | zero => simp [DataW.trod] at h
  | succ n =>
    unfold DataW.trod at h
    rw [ht] at h
    have r2 : List.range 2 = [0, 1] := rfl
    simp [r2, hce] at h
    obtain ⟨_, h⟩ := h
    cases h0 : DataW.trod enc P w base spare held n e [c0] with
    | none => simp [h0] at h
    | some y0 =>
      cases h1 : DataW.trod enc P w base spare held n e [c1] with
      | none => simp [h0, h1] at h
      | some y1 => exact ⟨y0, y1, n, h0, h1⟩
def Bx2 (w : World) (B : Nat) (va vb : Value) : Prop := B < w.heap.size ∧ w.cell? ⟨B, 0, none⟩ = some va ∧ w.cell? ⟨B, 1, none⟩ = some vb
theorem Bx2.ext {w w' : World} {B : Nat} {va vb : Value} (h : Bx2 w B va vb) (hB : Ext w w') : Bx2 w' B va vb := by
  obtain ⟨h0, h1, h2⟩ := h
  have hc := fun o => hB.cell (p := ⟨B, o, none⟩) h0
  exact ⟨Nat.lt_of_lt_of_le h0 hB.size, by rw [hc]; exact h1, by rw [hc]; exact h2⟩
def Bx3 (w : World) (B : Nat) (va vb vc : Value) : Prop := B < w.heap.size ∧ w.cell? ⟨B, 0, none⟩ = some va ∧ w.cell? ⟨B, 1, none⟩ = some vb ∧ w.cell? ⟨B, 2, none⟩ = some vc
theorem Bx3.ext {w w' : World} {B : Nat} {va vb vc : Value} (h : Bx3 w B va vb vc) (hB : Ext w w') : Bx3 w' B va vb vc := by
  obtain ⟨h0, h1, h2, h3⟩ := h
  have hc := fun o => hB.cell (p := ⟨B, o, none⟩) h0
  exact ⟨Nat.lt_of_lt_of_le h0 hB.size, by rw [hc]; exact h1, by rw [hc]; exact h2, by rw [hc]; exact h3⟩
/-- At most k limbs. -/
def Ltl (n k : Nat) : Prop := n < LB ^ k
theorem cut_lt (xs : List Nat) (k : Nat) (hx : ∀ x ∈ xs, x < 4294967296) : Ltl (cutN xs k) k := by
  have h := val_lt (xs.take k) (fun x h => hx x (List.mem_of_mem_take h))
  refine Nat.lt_of_lt_of_le h (Nat.pow_le_pow_right (by decide) ?_)
  rw [List.length_take]; omega
theorem Ltl.le {n m i : Nat} (hn : Ltl n i) (h : m ≤ n) : Ltl m i := Nat.lt_of_le_of_lt h hn
end Go.Proofs.YtbdmncpibnligaaGreatDoor
/- The document's rests and products. -/
namespace Go.Proofs.YtbdmncpibnligaaGreatDoor
open Go.RowKit
set_option linter.unusedVariables false
set_option maxHeartbeats 400000

set_option maxRecDepth 100000 in
set_option maxHeartbeats 8000000 in
theorem rschool_calls (w : World) (va vb : Value) (as_ bs : List Nat) (na nb : Nat) (ha : U w va as_) (hb : U w vb bs) (hna : as_.length = na) (hnb : bs.length = nb) (hn1 : na ≤ 1000) (hn2 : nb ≤ 1000) :
    Calls Tryz.prog 26 #[va, vb] w fun e w' => (∃ u, e = .returned u ∧ Un w' u (val as_ * val bs)) ∧ Ext w w' := by
  obtain ⟨A, ca, rfl, ⟨hca, hma⟩, hxl, hxr⟩ := id ha
  obtain ⟨A2, cb, rfl, ⟨hcb, hmb⟩, hyl, hyr⟩ := id hb
  have HL : Hid (as_.length = na ∧ bs.length = nb) := ⟨hna, hnb⟩
  have HTX := Lib.hid (fun k => lval_take_succ bs k)
  have HTY := Lib.hid (fun k => lval_take_succ as_ k)
  have HT2 : Hid (bs.take nb = bs ∧ as_.take na = as_) := ⟨by rw [← hnb]; exact List.take_length, by rw [← hna]; exact List.take_length⟩
  rw [hna] at hca hma hxr ⊢
  rw [hnb] at hcb hmb hyr ⊢
  obtain ⟨n, hnn⟩ : ∃ n, na + nb = n := ⟨_, rfl⟩
  have hni : (na : Int) + (nb : Int) = (n : Int) := by omega
  obtain ⟨i0, hi, hz0, hz1, hz2⟩ := info_parts info32
  obtain ⟨B, hB⟩ : ∃ B, w.heap.size = B := ⟨_, rfl⟩
  have HBS := Lib.hid hB
  clear ha hb hna hnb
  go_enter Tryz.func26, Tryz.ntmps26
  go_wp2_with (at_make; refine wpList_make_full _ rfl _ _ 22 rfl w.heap.size 36 i0 (.int .u32 0) 1 Tryz.underlying22 hi hz0 hz1 _ _ _ _ n rfl rfl (by omega) (by omega) (by rw [hz2]; omega) (by unfold maxLen; omega) (Nat.le_refl _) ?_; intro w1 hown hgrow)
  have ho0 : Own w1 w.heap.size (.slice (some ⟨w.heap.size, 0, none⟩) n n) (List.replicate n 0) := by
    have := Own.zeros hown
    rwa [List.length_replicate] at this
  have hE0 : Ext w w1 := (Ext.refl w).grown hgrow (Nat.le_refl _) (fun _ h => by cases h)
  rw [hB] at ho0
  clear hown hgrow hi hz0 hz1 hz2 i0
  have hS0 : Hid (LsI bs as_ n 0 (List.replicate n 0)) := ⟨by simp, fun x hx => by simp at hx; omega, by simp [val_replicate_zero, val], fun m _ => lb_zeros _ _⟩
  go_wp2
  go_loopw [6] (fun t wr => ∃ (i : Nat) (o : List Nat), i ≤ na ∧ t = .int .i64 (i : Nat) ∧ Hid (LsI bs as_ n i o) ∧ Own wr B (.slice (some ⟨B, 0, none⟩) n n) o ∧ Ext w wr) (fun t _ => na - (intOf t).toNat)
  case atStart => exact ⟨0, _, Nat.zero_le _, rfl, hS0, ho0, hE0⟩
  case round =>
    clear hS0 ho0 hE0
    obtain ⟨i, o, hib, rfl, HO, hown, hE⟩ := hrel
    by_cases hlt : i < na
    · obtain ⟨ad, rfl, hb1, hcell1⟩ := hxr (by omega)
      have hyb := lb_lt hxl i
      have hty := HTY.out i (by rw [HL.out.1]; exact hlt)
      obtain ⟨y, hyy⟩ : ∃ y, lb as_ i = y := ⟨_, rfl⟩
      rw [hyy] at hyb hty
      have HY := Lib.hid hyy
      have HS1 : Hid (LwI o n i (val o + LB ^ i * (val (bs.take 0) * y)) 0 o 0) := ⟨HO.out.len, HO.out.lt, by decide, by simp [val], fun m _ => rfl⟩
      have HTYI : Hid (val (as_.take (i + 1)) = val (as_.take i) + LB ^ i * y) := hty
      have hno : Hid (lb o (i + nb) = 0) := HO.out.out _ (by rw [HL.out.2]; exact Nat.le_refl _)
      clear hyy hty
      go_wp2
      go_loopw [8, 7] (fun t s wx => ∃ (j : Nat) (o2 : List Nat) (cy : Nat), j ≤ nb ∧ t = .int .i64 (j : Nat) ∧ s = .int .u64 (cy : Nat) ∧ Hid (LwI o n i (val o + LB ^ i * (val (bs.take j) * y)) j o2 cy) ∧ Own wx B (.slice (some ⟨B, 0, none⟩) n n) o2 ∧ Ext w wx) (fun t _ _ => nb - (intOf t).toNat)
      case atStart => exact ⟨0, o, 0, Nat.zero_le _, rfl, rfl, HS1, hown, hE⟩
      case round =>
        clear HS1 hown hE
        obtain ⟨j, o2, cy, hj, rfl, rfl, HW, hown, hE⟩ := hrel
        by_cases hjt : j < nb
        · obtain ⟨ad2, rfl, hb2, hcell2⟩ := hyr (by omega)
          have hc0 := (hE.cell (p := ad.add i) (by rw [addr_add_block]; exact hb1)).trans (hcell1 i hlt)
          rw [HY.out] at hc0
          have hc1 := (hE.cell (p := ad2.add j) (by rw [addr_add_block]; exact hb2)).trans (hcell2 j hjt)
          have hxb := lb_lt hyl j
          have htk := HTX.out j (by rw [HL.out.2]; exact hjt)
          have hcz := hown.rd.2 (i + j) (by rw [HW.out.len]; omega)
          have hf := hown.frozen' (i + j)
          have hzb := lb_lt HW.out.lt (i + j)
          have hcy := HW.out.cy1
          obtain ⟨x, hxx⟩ : ∃ x, lb bs j = x := ⟨_, rfl⟩
          rw [hxx] at hc1 hxb htk
          obtain ⟨z, hzz⟩ : ∃ z, lb o2 (i + j) = z := ⟨_, rfl⟩
          rw [hzz] at hcz hzb
          obtain ⟨t, ht⟩ : ∃ t, x * y = t := ⟨_, rfl⟩
          have ht1 : t ≤ 18446744065119617025 := by rw [← ht]; exact sq_lt hxb hyb
          have hti : (y : Int) * (x : Int) = (t : Int) := by rw [← ht, Int.natCast_mul, Int.mul_comm]
          obtain ⟨u, hu⟩ : ∃ u, cy + (t + z) = u := ⟨_, rfl⟩
          obtain ⟨s, hs⟩ : ∃ s, u % 4294967296 = s := ⟨_, rfl⟩
          obtain ⟨d, hd⟩ : ∃ d, u / 4294967296 = d := ⟨_, rfl⟩
          obtain ⟨hm, hsb, hdb, hub, htz⟩ := limb_math t z cy s d u ht1 hzb hcy hu hs hd
          have hst := HW.out.step (by omega) t s d (by rw [hzz]; exact hm) hsb hdb
          rw [Nat.add_assoc (val o), Nat.pow_add, Nat.mul_assoc, ← Nat.mul_add, ← ht, ← Nat.mul_assoc, ← Nat.add_mul, ← htk] at hst
          have HST := Lib.hid hst
          have hown2 := hown.set' (i + j) s
          have hE2 := hE.setCell (p := ⟨B, i + j, none⟩) (by rw [HBS.out]; exact Nat.le_refl _) (.int .u32 (s : Nat))
          have q1 : IntKind.u64.wrap (t : Int) = (t : Int) := by rw [IntKind.wrap_u64]; omega
          have q2 : IntKind.u64.wrap ((t : Int) + (z : Int)) = (t : Int) + (z : Int) := by rw [IntKind.wrap_u64]; omega
          have q3 : (t : Int) + (z : Int) + (cy : Int) = (u : Int) := by omega
          have q4 : IntKind.u64.wrap (u : Int) = (u : Int) := by rw [IntKind.wrap_u64]; omega
          have q5 : IntKind.u32.wrap (u : Int) = (s : Int) := by rw [IntKind.wrap_u32]; omega
          have q6 : (u : Int) % 4294967296 = (s : Int) := by omega
          have q7 : (u : Int) / 4294967296 = (d : Int) := by omega
          have q8 : IntKind.u64.wrap (x : Int) = (x : Int) := by rw [IntKind.wrap_u64]; omega
          have q9 : IntKind.u64.wrap (y : Int) = (y : Int) := by rw [IntKind.wrap_u64]; omega
          have q10 : IntKind.u64.wrap (z : Int) = (z : Int) := by rw [IntKind.wrap_u64]; omega
          have q11 : (u : Int) % 18446744073709551616 = (u : Int) := by omega
          have q12 : (t : Int) % 18446744073709551616 = (t : Int) := by omega
          have q13 : ((t : Int) + (z : Int)) % 18446744073709551616 = (t : Int) + (z : Int) := by omega
          have q14 : IntKind.i64.wrap ((i : Int) + (j : Int)) = (i : Int) + (j : Int) := IntWalk.i64_in _ (by omega)
          have q15 : (0 : Int) ≤ (i : Int) + (j : Int) := by omega
          have q16 : (i : Int) + (j : Int) < (n : Int) := by omega
          have q17 : ((i : Int) + (j : Int)).toNat = i + j := by omega
          have q18 : (0 : Int) ≤ (i : Int) := by omega
          have q19 : (i : Int) < (na : Int) := by omega
          have q20 : (0 : Int) ≤ (j : Int) := by omega
          have q21 : (j : Int) < (nb : Int) := by omega
          clear hst htk hxx hzz ht hu hs hd hm HW hxb hzb ht1 hcy hown2 hE2
          have HOWN := Lib.hid hown
          have HEE := Lib.hid hE
          clear hown hE
          go_wp2_with (fail)
          go_quiet (fail)
          have hown2 := (HOWN.out.ext (ext_drewN wr nq)).set' (i + j) s
          have hE2 := (HEE.out.below (ext_drewN wr nq)).setCell (p := ⟨B, i + j, none⟩) (by rw [HBS.out]; exact Nat.le_refl _) (.int .u32 (s : Nat))
          go_wp2
          go_roundw
          case rel => exact ⟨j + 1, _, d, by omega, by go_num, rfl, HST, hown2, hE2⟩
          case measure => simp [intOf]; omega
        · obtain rfl : j = nb := by omega
          have hcz := hown.rd.2 (i + j) (by rw [HW.out.len]; omega)
          have hf := hown.frozen' (i + j)
          have hl0 : lb o2 (i + j) = 0 := by rw [HW.out.out _ (Nat.le_refl _)]; exact hno.out
          have hws := lval_set o2 (i + j) cy (by rw [HW.out.len]; omega)
          rw [hl0, Nat.mul_zero, Nat.add_zero, HW.out.val, HT2.out.1] at hws
          have hcz' : (Value.int .u32 (lb o2 (i + j) : Nat)) = .int .u32 0 := by rw [hl0]; rfl
          rw [hcz'] at hcz
          have hcyb := HW.out.cy1
          have q5 : IntKind.u32.wrap (cy : Int) = (cy : Int) := by rw [IntKind.wrap_u32]; omega
          have q6 : (cy : Int) % 4294967296 = (cy : Int) := by omega
          have hown2 := hown.set' (i + j) cy
          have hE2 := hE.setCell (p := ⟨B, i + j, none⟩) (by rw [HBS.out]; exact Nat.le_refl _) (.int .u32 (cy : Nat))
          have HST : Hid (LsI bs as_ n (i + 1) (o2.set (i + j) cy)) := by
            refine ⟨by rw [List.length_set]; exact HW.out.len, set_lt HW.out.lt hcyb, ?_, fun m hm => ?_⟩
            · rw [hws, HTYI.out, Nat.mul_add, ← HO.out.val, Nat.mul_left_comm]
            · rw [HL.out.2] at hm
              rw [lb_set_other _ (by omega), HW.out.out _ (by omega)]
              exact HO.out.out m (by rw [HL.out.2]; omega)
          have g12 : (i : Int) + (j : Int) < (n : Int) := by omega
          have g13 : i + j < n := by omega
          clear hl0 hws hcz' hown hE HW hcyb HTYI hno
          go_wp2
          go_roundw
          case rel => exact ⟨i + 1, _, by omega, by go_num, HST, hown2, hE2⟩
          case measure => simp [intOf]; omega
    · obtain rfl : i = na := by omega
      have hu := hown.toU HO.out.lt (by rw [HO.out.len]; omega)
      have hvv := HO.out.val
      rw [HT2.out.2, Nat.mul_comm] at hvv
      have HV := Lib.hid hvv
      have hol := HO.out.len
      clear hown HO hvv
      go_wp2_with (fail)
      refine (rmake_calls _ _ _ hu (by omega)).mono ?_
      rintro e w2 ⟨⟨u, rfl, hu2⟩, hB2⟩
      rw [HV.out] at hu2
      have hE2 := hE.below hB2
      have HF : Hid (∃ u', Ending.returned u = .returned u' ∧ Un w2 u' (val as_ * val bs)) := ⟨_, rfl, hu2⟩
      clear hu2 hu hB2
      go_wp2
      go_ret
      exact ⟨HF.out, hE2⟩
end Go.Proofs.YtbdmncpibnligaaGreatDoor
/- Parts of sums of products. -/
namespace Go.Proofs.YtbdmncpibnligaaGreatDoor
open Go.RowKit
set_option linter.unusedVariables false
set_option maxHeartbeats 400000

theorem U3.shape {w : World} {v : Value} {xs : List Nat} (h : U3 w v xs) : ∃ A c, v = .slice A xs.length c ∧ xs.length ≤ c := by
  obtain ⟨A, c, rfl, hc, _⟩ := h; exact ⟨A, c, rfl, hc.1⟩
end Go.Proofs.YtbdmncpibnligaaGreatDoor
/- The document's powers, and carried sums. -/
namespace Go.Proofs.YtbdmncpibnligaaGreatDoor
open Go.RowKit
set_option linter.unusedVariables false
set_option maxHeartbeats 400000

theorem rschoolX_B (w : World) (va vb : Value) (n m k : Nat) (ha : Un w va n) (hb : Un w vb m) (hn : (limbs n).length ≤ 398) (hm : (limbs m).length ≤ 398) (hk : n * m = k) :
    Calls Tryz.prog 26 #[va, vb] w fun e w' => ∃ u, e = .returned u ∧ Un w' u k ∧ Ext w w' := by
  refine (rschool_calls w va vb _ _ _ _ ha hb rfl rfl (by omega) (by omega)).mono ?_
  rw [val_limbs, val_limbs, hk]
  rintro e w' ⟨⟨u, h1, h2⟩, h3⟩
  exact ⟨u, h1, h2, h3⟩

end Go.Proofs.YtbdmncpibnligaaGreatDoor
