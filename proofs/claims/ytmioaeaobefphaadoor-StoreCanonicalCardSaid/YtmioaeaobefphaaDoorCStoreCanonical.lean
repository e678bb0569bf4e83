/- Proved: the statement StoreCanonical. -/
import Derived.Test.YtmioaeaobefphaaDoorBar
import Derived.Test.YtmioaeaobefphaaDoorBaq

namespace Go.Proofs.YtmioaeaobefphaaDoor
open Go.RowKit 
set_option linter.unusedVariables false
set_option linter.unusedSimpArgs false
set_option maxRecDepth 100000
set_option maxHeartbeats 4000000
theorem StoreCanonical_walk (w : World) {v : Value} {lo : Nat} {bs : T.Byt} (h : By w lo v bs) (hg : Gl w) :
    Calls Tryd.prog 7 #[v] w fun e w' => e = .returned (.bool true) ∧ Pl.Ex w w' := by
  obtain ⟨A, c, rfl, hn, hc⟩ := h.sh
  obtain ⟨hsm, hsl, hst, hsi, hsc⟩ := T.rd_spec bs
  refine Pl.calls_by (n := 68) (vs := [.slice A bs.length c]) Tryd.func7 rfl (by kernel_rfl) (by simp) ?_
  repeat refine Pl.V_seq ?_
  refine Pl.V_region (by kernel_rfl) ?_
  refine Pl.qA_go trivial rfl ?_
  refine Pl.pA_end ?_
  repeat refine Pl.V_seq ?_
  refine Pl.V_region (by kernel_rfl) ?_
  refine Pl.pA_call rfl rfl rfl rfl rfl (fun u X => Pl.enters Tryd.func11 (by kernel_rfl) rfl u X) ?_
  refine Calls.mono (head_calls _ (hg.ex (Pl.Ex.refl _))) ?_
  rintro e w1 ⟨rfl, hE1⟩
  have sz1 := Pl.Ex.size hE1
  refine ⟨_, rfl, trivial, ?_⟩
  refine Pl.qA_go trivial rfl ?_
  refine Pl.pA_end ?_
  by_cases h1 : bs.length > 3000
  · repeat refine Pl.V_seq ?_
    refine Pl.V_region (by kernel_rfl) ?_
    refine Pl.qA_go trivial rfl ?_
    refine Pl.qA_ln Tryd.underlying22 trivial rfl rfl rfl rfl rfl ?_
    refine Pl.qA_b (v := .bool true) (fun X => Pl.r_gtr (decide_eq_true (by omega)) X) trivial rfl rfl rfl rfl rfl rfl ?_
    refine Pl.pA_end ?_
    repeat refine Pl.V_seq ?_
    refine Pl.V_true rfl ?_
    repeat refine Pl.V_seq ?_
    refine Pl.V_region (by kernel_rfl) ?_
    refine Pl.qA_go trivial rfl ?_
    refine Pl.pA_end ?_
    repeat refine Pl.V_seq ?_
    exact Pl.post_ret rfl rfl ⟨rfl, hE1⟩
  · repeat refine Pl.V_seq ?_
    refine Pl.V_region (by kernel_rfl) ?_
    refine Pl.qA_go trivial rfl ?_
    refine Pl.qA_ln Tryd.underlying22 trivial rfl rfl rfl rfl rfl ?_
    refine Pl.qA_b (v := .bool false) (fun X => Pl.r_gtr (decide_eq_false (by omega)) X) trivial rfl rfl rfl rfl rfl rfl ?_
    refine Pl.pA_end ?_
    repeat refine Pl.V_seq ?_
    refine Pl.V_false rfl ?_
    repeat refine Pl.V_seq ?_
    refine Pl.V_skip ?_
    repeat refine Pl.V_seq ?_
    refine Pl.V_region (by kernel_rfl) ?_
    refine Pl.qA_go trivial rfl ?_
    refine Pl.pA_call rfl rfl rfl rfl rfl (fun u X => Pl.enters Tryd.func14 (by kernel_rfl) rfl u X) ?_
    refine Calls.mono (read_calls _ (By.ex h hE1) (hg.ex hE1) (by omega)) ?_
    rintro e w2 ⟨rv, rfl, hR, hE2⟩
    generalize (T.rd bs).1 = xs at *
    generalize (T.rd bs).2.1 = n at *
    generalize (T.rd bs).2.2 = cc at *
    obtain ⟨A4, c4, rfl, hn4, hc4⟩ := Es.sh hR
    have sz2 := Pl.Ex.size hE2
    refine ⟨_, rfl, trivial, ?_⟩
    refine Pl.qA_go trivial rfl ?_
    refine Pl.pA_end ?_
    by_cases h0 : cc = 0
    · have hnb := hsi.1 h0
      repeat refine Pl.V_seq ?_
      refine Pl.V_region (by kernel_rfl) ?_
      refine Pl.qA_go trivial rfl ?_
      refine Pl.qA_b (v := .bool false) (fun X => Pl.r_lss (decide_eq_false (by omega)) X) trivial rfl rfl rfl rfl rfl rfl ?_
      refine Pl.qA_go trivial rfl ?_
      refine Pl.qA_ln Tryd.underlying22 trivial rfl rfl rfl rfl rfl ?_
      refine Pl.qA_b (v := .bool false) (fun X => Pl.r_gtr (decide_eq_false (by omega)) X) trivial rfl rfl rfl rfl rfl rfl ?_
      refine Pl.qA_go trivial rfl ?_
      refine Pl.qA_b (v := .bool true) (fun X => Pl.r_eql (Pl.e_t (by omega)) X) trivial rfl rfl rfl rfl rfl rfl ?_
      refine Pl.qA_go trivial rfl ?_
      refine Pl.qA_ln Tryd.underlying22 trivial rfl rfl rfl rfl rfl ?_
      refine Pl.qA_b (v := .bool true) (fun X => Pl.r_eql (Pl.e_t (by omega)) X) trivial rfl rfl rfl rfl rfl rfl ?_
      refine Pl.qA_b (v := .bool false) (fun X => r_neqb false rfl X) trivial rfl rfl rfl rfl rfl rfl ?_
      refine Pl.qA_go trivial rfl ?_
      refine Pl.pA_end ?_
      repeat refine Pl.V_seq ?_
      refine Pl.V_false rfl ?_
      repeat refine Pl.V_seq ?_
      refine Pl.V_skip ?_
      repeat refine Pl.V_seq ?_
      refine Pl.V_region (by kernel_rfl) ?_
      refine Pl.qA_go trivial rfl ?_
      refine Pl.pA_end ?_
      repeat refine Pl.V_seq ?_
      refine Pl.V_block ?_
      repeat refine Pl.V_seq ?_
      refine Pl.V_sub [(0, .slice A bs.length c), (3, .bool true), (4, .slice A4 xs.length c4), (5, .int .i64 ((n : Nat) : Int)), (7, .int .i64 0)] (Pl.subl_cons rfl (Pl.subl_cons rfl (Pl.subl_cons rfl (Pl.subl_cons rfl (Pl.subl_cons rfl Pl.subl_nil))))) ?_
      have hXr := (Pl.Ex.trans hE1 hE2)
      have hRr := Es.ex hR (Pl.Ex.refl _)
      refine Pl.V_loop (fun k l' w' => ∃ q, q + k = xs.length ∧ Pl.Ex w2 w' ∧ l' = [(0, .slice A bs.length c), (3, .bool true), (4, .slice A4 xs.length c4), (5, .int .i64 ((n : Nat) : Int)), (7, .int .i64 ((q : Nat) : Int))]) xs.length ⟨0, by omega, Pl.Ex.refl _, rfl⟩ ?_
      rintro k _ Z ⟨q, hq, hZ, rfl⟩
      by_cases hlt : q < xs.length
      · repeat refine Pl.V_seq ?_
        refine Pl.V_region (by kernel_rfl) ?_
        refine Pl.qA_go trivial rfl ?_
        refine Pl.qA_ln Tryd.underlying29 trivial rfl rfl rfl rfl rfl ?_
        refine Pl.qA_b (v := .bool true) (fun X => Pl.r_lss (decide_eq_true (by omega)) X) trivial rfl rfl rfl rfl rfl rfl ?_
        refine Pl.pA_end ?_
        repeat refine Pl.V_seq ?_
        refine Pl.V_true rfl ?_
        repeat refine Pl.V_seq ?_
        refine Pl.V_skip ?_
        repeat refine Pl.V_seq ?_
        refine Pl.V_block ?_
        obtain ⟨ad, rfl, hla⟩ := (Es.ex hRr hZ).load hlt
        repeat refine Pl.V_seq ?_
        refine Pl.V_region (by kernel_rfl) ?_
        refine Pl.qA_go trivial rfl ?_
        refine Pl.qA_ix (s := 2) (j := q) Tryd.underlying29 (by kernel_rfl) rfl (by omega) trivial rfl rfl rfl rfl rfl rfl ?_
        refine Pl.qA_loadw trivial rfl rfl rfl rfl rfl (hla _ (Pl.Ex.refl _)) ?_
        refine Pl.pA_call rfl rfl rfl rfl rfl (fun u X => Pl.enters Tryd.func23 (by kernel_rfl) rfl u X) ?_
        refine Calls.mono (rmay_yes (e0 := xs[q]) _ (hsm _ (List.getElem_mem hlt))) ?_
        rintro e w1 ⟨rfl, hE1⟩
        have sz1 := Pl.Ex.size hE1
        refine ⟨_, rfl, trivial, ?_⟩
        refine Pl.qA_un (v := .bool false) trivial rfl rfl rfl rfl rfl (fun X => rfl) ?_
        refine Pl.pA_end ?_
        repeat refine Pl.V_seq ?_
        refine Pl.V_false rfl ?_
        repeat refine Pl.V_seq ?_
        refine Pl.V_skip ?_
        repeat refine Pl.V_seq ?_
        refine Pl.V_endblock ?_
        repeat refine Pl.V_seq ?_
        refine Pl.V_region (by kernel_rfl) ?_
        refine Pl.qA_go trivial rfl ?_
        refine Pl.qA_b (v := .int .i64 (((q + 1) : Nat) : Int)) (fun X => Pl.r_add (Pl.a64 (a := q) (b := 1) rfl rfl (by omega)) X) trivial rfl rfl rfl rfl rfl rfl ?_
        refine Pl.qA_go trivial rfl ?_
        refine Pl.pA_end ?_
        refine Pl.V_again [(0, .slice A bs.length c), (3, .bool true), (4, .slice (some ad) xs.length c4), (5, .int .i64 ((n : Nat) : Int)), (7, .int .i64 (((q + 1) : Nat) : Int))] (Pl.subl_cons rfl (Pl.subl_cons rfl (Pl.subl_cons rfl (Pl.subl_cons rfl (Pl.subl_cons rfl Pl.subl_nil))))) (k' := k - 1) (by omega) ⟨q + 1, by omega, Pl.Ex.trans hZ hE1, rfl⟩
      · repeat refine Pl.V_seq ?_
        refine Pl.V_region (by kernel_rfl) ?_
        refine Pl.qA_go trivial rfl ?_
        refine Pl.qA_ln Tryd.underlying29 trivial rfl rfl rfl rfl rfl ?_
        refine Pl.qA_b (v := .bool false) (fun X => Pl.r_lss (decide_eq_false (by omega)) X) trivial rfl rfl rfl rfl rfl rfl ?_
        refine Pl.pA_end ?_
        repeat refine Pl.V_seq ?_
        refine Pl.V_false rfl ?_
        repeat refine Pl.V_seq ?_
        refine Pl.V_exit ?_
        have hXZ := Pl.Ex.trans hXr hZ
        have hrl : (T.recs xs).length ≤ 10000000 := by rw [← hst, List.length_take]; omega
        repeat refine Pl.V_seq ?_
        refine Pl.V_region (by kernel_rfl) ?_
        refine Pl.qA_go trivial rfl ?_
        refine Pl.pA_call rfl rfl rfl rfl rfl (fun u X => Pl.enters Tryd.func22 (by kernel_rfl) rfl u X) ?_
        refine Calls.mono (written_calls _ (Es.ex (Es.ex hRr hZ) (Pl.Ex.refl _)) hsm (hg.ex (Pl.Ex.trans hXZ (Pl.Ex.refl _))) hrl) ?_
        rintro e w1 ⟨v5, rfl, hG, hE1⟩
        have hL := Gy.by hG (by omega)
        have sz1 := Pl.Ex.size hE1
        refine ⟨_, rfl, trivial, ?_⟩
        refine Pl.qA_go trivial rfl ?_
        refine Pl.pA_end ?_
        have hLb := By.ex hL (Pl.Ex.refl _)
        have hBb := By.head (k := n) (By.ex h (Pl.Ex.trans hXZ hE1)) (by omega)
        repeat refine Pl.V_seq ?_
        refine Pl.V_draw (S := fun X => Pl.Ex w1 X) [(true, 0, 0), (true, 1, 1), (true, 2, 3), (true, 3, 7), (true, 4, 15), (true, 5, 31), (true, 6, 63), (true, 7, 127), (true, 8, 255), (true, 9, 511), (true, 10, 1023), (true, 11, 2047), (true, 12, 4095), (true, 13, 8191)] fo Pl.post_panic (by kernel_rfl) (Pl.Ex.trans (Pl.Ex.refl _) (Pl.Ex.drew _)) ?_
        have hE2 := Pl.Ex.drew w1
        generalize w1.drew = w2 at *
        have sz2 := Pl.Ex.size hE2
        intro hS2
        refine Pl.qA_go hS2 rfl ?_
        refine qA_fs (bs := T.recs xs) (fun X hX => By.ex hLb hX) hS2 rfl rfl rfl rfl rfl ?_
        refine Pl.qA_go hS2 rfl ?_
        refine Pl.qA_sl (kl := .i64) (kh := .i64) (lo' := 0) (hi' := n) (s := 1) Tryd.underlying22 (by kernel_rfl) (.inl ⟨rfl, rfl⟩) (.inr ⟨_, _, rfl, rfl, rfl⟩) (by omega) (by omega) hS2 rfl rfl rfl rfl rfl ?_
        rw [cutA_zero]
        refine qA_fs (bs := bs.take n) (fun X hX => By.ex hBb hX) hS2 rfl rfl rfl rfl rfl ?_
        refine Pl.qA_b (v := .bool true) (fun X => eqS hst.symm X) hS2 rfl rfl rfl rfl rfl rfl ?_
        refine Pl.qA_go hS2 rfl ?_
        refine Pl.pA_end ?_
        repeat refine Pl.V_seq ?_
        exact Pl.post_ret rfl rfl ⟨rfl, Pl.Ex.trans hXZ (Pl.Ex.trans hE1 hE2)⟩
    · have hnb : ¬ n = bs.length := fun e => h0 (hsi.2 e)
      repeat refine Pl.V_seq ?_
      refine Pl.V_region (by kernel_rfl) ?_
      refine Pl.qA_go trivial rfl ?_
      refine Pl.qA_b (v := .bool false) (fun X => Pl.r_lss (decide_eq_false (by omega)) X) trivial rfl rfl rfl rfl rfl rfl ?_
      refine Pl.qA_go trivial rfl ?_
      refine Pl.qA_ln Tryd.underlying22 trivial rfl rfl rfl rfl rfl ?_
      refine Pl.qA_b (v := .bool false) (fun X => Pl.r_gtr (decide_eq_false (by omega)) X) trivial rfl rfl rfl rfl rfl rfl ?_
      refine Pl.qA_go trivial rfl ?_
      refine Pl.qA_b (v := .bool false) (fun X => Pl.r_eql (Pl.e_f (by omega)) X) trivial rfl rfl rfl rfl rfl rfl ?_
      refine Pl.qA_go trivial rfl ?_
      refine Pl.qA_ln Tryd.underlying22 trivial rfl rfl rfl rfl rfl ?_
      refine Pl.qA_b (v := .bool false) (fun X => Pl.r_eql (Pl.e_f (by omega)) X) trivial rfl rfl rfl rfl rfl rfl ?_
      refine Pl.qA_b (v := .bool false) (fun X => r_neqb false rfl X) trivial rfl rfl rfl rfl rfl rfl ?_
      refine Pl.qA_go trivial rfl ?_
      refine Pl.pA_end ?_
      repeat refine Pl.V_seq ?_
      refine Pl.V_false rfl ?_
      repeat refine Pl.V_seq ?_
      refine Pl.V_skip ?_
      repeat refine Pl.V_seq ?_
      refine Pl.V_region (by kernel_rfl) ?_
      refine Pl.qA_go trivial rfl ?_
      refine Pl.pA_end ?_
      repeat refine Pl.V_seq ?_
      refine Pl.V_block ?_
      repeat refine Pl.V_seq ?_
      refine Pl.V_sub [(0, .slice A bs.length c), (3, .bool true), (4, .slice A4 xs.length c4), (5, .int .i64 ((n : Nat) : Int)), (7, .int .i64 0)] (Pl.subl_cons rfl (Pl.subl_cons rfl (Pl.subl_cons rfl (Pl.subl_cons rfl (Pl.subl_cons rfl Pl.subl_nil))))) ?_
      have hXr := (Pl.Ex.trans hE1 hE2)
      have hRr := Es.ex hR (Pl.Ex.refl _)
      refine Pl.V_loop (fun k l' w' => ∃ q, q + k = xs.length ∧ Pl.Ex w2 w' ∧ l' = [(0, .slice A bs.length c), (3, .bool true), (4, .slice A4 xs.length c4), (5, .int .i64 ((n : Nat) : Int)), (7, .int .i64 ((q : Nat) : Int))]) xs.length ⟨0, by omega, Pl.Ex.refl _, rfl⟩ ?_
      rintro k _ Z ⟨q, hq, hZ, rfl⟩
      by_cases hlt : q < xs.length
      · repeat refine Pl.V_seq ?_
        refine Pl.V_region (by kernel_rfl) ?_
        refine Pl.qA_go trivial rfl ?_
        refine Pl.qA_ln Tryd.underlying29 trivial rfl rfl rfl rfl rfl ?_
        refine Pl.qA_b (v := .bool true) (fun X => Pl.r_lss (decide_eq_true (by omega)) X) trivial rfl rfl rfl rfl rfl rfl ?_
        refine Pl.pA_end ?_
        repeat refine Pl.V_seq ?_
        refine Pl.V_true rfl ?_
        repeat refine Pl.V_seq ?_
        refine Pl.V_skip ?_
        repeat refine Pl.V_seq ?_
        refine Pl.V_block ?_
        obtain ⟨ad, rfl, hla⟩ := (Es.ex hRr hZ).load hlt
        repeat refine Pl.V_seq ?_
        refine Pl.V_region (by kernel_rfl) ?_
        refine Pl.qA_go trivial rfl ?_
        refine Pl.qA_ix (s := 2) (j := q) Tryd.underlying29 (by kernel_rfl) rfl (by omega) trivial rfl rfl rfl rfl rfl rfl ?_
        refine Pl.qA_loadw trivial rfl rfl rfl rfl rfl (hla _ (Pl.Ex.refl _)) ?_
        refine Pl.pA_call rfl rfl rfl rfl rfl (fun u X => Pl.enters Tryd.func23 (by kernel_rfl) rfl u X) ?_
        refine Calls.mono (rmay_yes (e0 := xs[q]) _ (hsm _ (List.getElem_mem hlt))) ?_
        rintro e w1 ⟨rfl, hE1⟩
        have sz1 := Pl.Ex.size hE1
        refine ⟨_, rfl, trivial, ?_⟩
        refine Pl.qA_un (v := .bool false) trivial rfl rfl rfl rfl rfl (fun X => rfl) ?_
        refine Pl.pA_end ?_
        repeat refine Pl.V_seq ?_
        refine Pl.V_false rfl ?_
        repeat refine Pl.V_seq ?_
        refine Pl.V_skip ?_
        repeat refine Pl.V_seq ?_
        refine Pl.V_endblock ?_
        repeat refine Pl.V_seq ?_
        refine Pl.V_region (by kernel_rfl) ?_
        refine Pl.qA_go trivial rfl ?_
        refine Pl.qA_b (v := .int .i64 (((q + 1) : Nat) : Int)) (fun X => Pl.r_add (Pl.a64 (a := q) (b := 1) rfl rfl (by omega)) X) trivial rfl rfl rfl rfl rfl rfl ?_
        refine Pl.qA_go trivial rfl ?_
        refine Pl.pA_end ?_
        refine Pl.V_again [(0, .slice A bs.length c), (3, .bool true), (4, .slice (some ad) xs.length c4), (5, .int .i64 ((n : Nat) : Int)), (7, .int .i64 (((q + 1) : Nat) : Int))] (Pl.subl_cons rfl (Pl.subl_cons rfl (Pl.subl_cons rfl (Pl.subl_cons rfl (Pl.subl_cons rfl Pl.subl_nil))))) (k' := k - 1) (by omega) ⟨q + 1, by omega, Pl.Ex.trans hZ hE1, rfl⟩
      · repeat refine Pl.V_seq ?_
        refine Pl.V_region (by kernel_rfl) ?_
        refine Pl.qA_go trivial rfl ?_
        refine Pl.qA_ln Tryd.underlying29 trivial rfl rfl rfl rfl rfl ?_
        refine Pl.qA_b (v := .bool false) (fun X => Pl.r_lss (decide_eq_false (by omega)) X) trivial rfl rfl rfl rfl rfl rfl ?_
        refine Pl.pA_end ?_
        repeat refine Pl.V_seq ?_
        refine Pl.V_false rfl ?_
        repeat refine Pl.V_seq ?_
        refine Pl.V_exit ?_
        have hXZ := Pl.Ex.trans hXr hZ
        have hrl : (T.recs xs).length ≤ 10000000 := by rw [← hst, List.length_take]; omega
        repeat refine Pl.V_seq ?_
        refine Pl.V_region (by kernel_rfl) ?_
        refine Pl.qA_go trivial rfl ?_
        refine Pl.pA_call rfl rfl rfl rfl rfl (fun u X => Pl.enters Tryd.func22 (by kernel_rfl) rfl u X) ?_
        refine Calls.mono (written_calls _ (Es.ex (Es.ex hRr hZ) (Pl.Ex.refl _)) hsm (hg.ex (Pl.Ex.trans hXZ (Pl.Ex.refl _))) hrl) ?_
        rintro e w1 ⟨v5, rfl, hG, hE1⟩
        have hL := Gy.by hG (by omega)
        have sz1 := Pl.Ex.size hE1
        refine ⟨_, rfl, trivial, ?_⟩
        refine Pl.qA_go trivial rfl ?_
        refine Pl.pA_end ?_
        have hLb := By.ex hL (Pl.Ex.refl _)
        have hBb := By.head (k := n) (By.ex h (Pl.Ex.trans hXZ hE1)) (by omega)
        repeat refine Pl.V_seq ?_
        refine Pl.V_draw (S := fun X => Pl.Ex w1 X) [(true, 0, 0), (true, 1, 1), (true, 2, 3), (true, 3, 7), (true, 4, 15), (true, 5, 31), (true, 6, 63), (true, 7, 127), (true, 8, 255), (true, 9, 511), (true, 10, 1023), (true, 11, 2047), (true, 12, 4095), (true, 13, 8191)] fo Pl.post_panic (by kernel_rfl) (Pl.Ex.trans (Pl.Ex.refl _) (Pl.Ex.drew _)) ?_
        have hE2 := Pl.Ex.drew w1
        generalize w1.drew = w2 at *
        have sz2 := Pl.Ex.size hE2
        intro hS2
        refine Pl.qA_go hS2 rfl ?_
        refine qA_fs (bs := T.recs xs) (fun X hX => By.ex hLb hX) hS2 rfl rfl rfl rfl rfl ?_
        refine Pl.qA_go hS2 rfl ?_
        refine Pl.qA_sl (kl := .i64) (kh := .i64) (lo' := 0) (hi' := n) (s := 1) Tryd.underlying22 (by kernel_rfl) (.inl ⟨rfl, rfl⟩) (.inr ⟨_, _, rfl, rfl, rfl⟩) (by omega) (by omega) hS2 rfl rfl rfl rfl rfl ?_
        rw [cutA_zero]
        refine qA_fs (bs := bs.take n) (fun X hX => By.ex hBb hX) hS2 rfl rfl rfl rfl rfl ?_
        refine Pl.qA_b (v := .bool true) (fun X => eqS hst.symm X) hS2 rfl rfl rfl rfl rfl rfl ?_
        refine Pl.qA_go hS2 rfl ?_
        refine Pl.pA_end ?_
        repeat refine Pl.V_seq ?_
        exact Pl.post_ret rfl rfl ⟨rfl, Pl.Ex.trans hXZ (Pl.Ex.trans hE1 hE2)⟩
end Go.Proofs.YtmioaeaobefphaaDoor
/- Proved: the statement StoreCanonical. -/
namespace Go.Proofs.YtmioaeaobefphaaDoor
open Go.ChangeShapes Go.WideShapes Go.ChangeAt Go.RowKit
set_option linter.unusedVariables false
set_option maxHeartbeats 2000000

set_option maxRecDepth 100000 in
theorem lifted_StoreCanonical (os : Os) (started : os.Started) (H : Type) (enc : TypeId × Value → H) :
    ReturnsInHanded {} Tryd.checked os 7 .any (fun w args => (Rows.storeCanonicalSpec.pre enc Tryd.prog Tryd.f7 [] false w args ∧ laidMetH Tryd.prog laidV w) ∧ sizedMet enc Tryd.prog Tryd.f7 (OpenSpec.ofChange Rows.storeCanonicalSpec) false w args)
      (Rows.storeCanonicalSpec.post enc Tryd.prog Tryd.f7 false true false false) := by
  refine returnsInHanded_of_change_and (C := Tryd.checked) (X := fun w _ => laidMetH Tryd.prog laidV w) (fun _ _ _ hh h => h.of_heap hh) own started (by kernel_rfl) Tryd.func7
    (ChangeSpec.witness_shaped (enc := enc) (C := Tryd.checked) (os := os) (X := fun w _ => laidMetH Tryd.prog laidV w) false (World.doorLaid Tryd.prog 400 os) #[.slice none 0 0] 8 rfl (World.shaped_of_RefB (by kernel_rfl) (by kernel_rfl)) (by kernel_rfl) (by kernel_rfl) (by kernel_rfl) (door_met os _)) ?_
  intro W base args ds gs before hval0 hW _ _ hL _
  have hval : ∀ (j : Nat) t v, Tryd.f7.params[j]? = some t → args[j]? = some v → Value.okWide Tryd.prog W .any base t v := hval0
  have hW' := hW
  obtain ⟨p, q, hA0, hV, rfl, hfz, hnd⟩ := hW
  have hlt : ∀ x ∈ p ++ q, x.block < W.heap.size := fun x hx => hW'.lt x hx
  have hA : DataW.TrodAll enc Tryd.prog W 0 (fun _ => true) true Tryd.f7.params.toList args.toList ds p := hA0
  rw [Tryd.params7] at hA hval
  clear hA0 hval0
  obtain ⟨v0, vs0, d0, ds0, p0, q0, hargs0, rfl, rfl, h0, r0⟩ := trodAll_cons hA
  obtain ⟨hn1, rfl, rfl⟩ := trodAll_nil r0
  subst hn1
  obtain rfl : args = #[v0] := by cases args; simp_all
  obtain ⟨rfl, rfl⟩ := trodVars_none hV
  obtain ⟨bs0, u0⟩ := open_bytes (hval 0 22 v0 rfl rfl) h0 (fun x hx => hlt x (by simp [hx]))
  refine (StoreCanonical_walk W u0 (gl_of_laid hL)).mono fun e W' ⟨he, hB⟩ => ?_
  subst he
  exact ⟨_, rfl, law_post hW' rfl (by rw [Tryd.params7]; decide +kernel) rfl rfl rfl rfl hB⟩

theorem storeCanonical_said : Rows.StoreCanonicalSaid :=
  OpenClaim.holds_of_wide 7 Tryd.f7 rfl rfl rfl rfl rfl rfl rfl ⟨rfl, rfl, rfl, rfl, rfl⟩ rfl rfl rfl rfl rfl (by kernel_rfl) Tryd.func7 (by kernel_rfl)
    (of_decide_eq_true (by kernel_rfl)) (by unfold Func.isWrapper; first | (rw [if_pos (by decide +kernel)]; kernel_rfl) | (rw [if_neg (by decide +kernel)]; exact ⟨rfl, rfl⟩))
    (fun os started H enc _ => lifted_StoreCanonical os started H enc)
/-- The statement: the card, tied. -/
theorem storeCanonical_holds : Rows.StoreCanonicalCardSaid :=
  Claim7.holds_tied_plain_at .later [] [.handle, .data] true Rows.storeCanonicalCard.stood.harness true
    storeCanonical_said (fun _ h => by cases h) (by kernel_rfl) (fun _ h => by cases h) storeCanonical_row_tie rfl ⟨rfl, rfl⟩ (by kernel_rfl) rfl
    (fun f fn hf hfn => by
      obtain rfl : f = 7 := Option.some.inj ((show Tryd.prog.funcNamed "ziggurat/zigguratlaw30.StoreCanonical" = some 7 by kernel_rfl).symm.trans hf) |>.symm
      obtain rfl : fn = Tryd.f7 := (Option.some.inj (Tryd.func7.symm.trans hfn)).symm
      exact ⟨by kernel_rfl, fun j t ht => by
        rw [Tryd.params7] at ht
        have hm : t ∈ [22] := by simpa using Array.mem_of_getElem? ht
        have hall : ([22].all fun u => !Tryd.prog.wantsStandIn u) = true := by kernel_rfl
        exact (show Tryd.prog.wantsStandIn t = false by simpa using List.all_eq_true.1 hall t hm)⟩)
    (by kernel_rfl)
end Go.Proofs.YtmioaeaobefphaaDoor
