/- Proved: the statement StoreCut. -/
import Derived.Test.YtmioaeaobefphaaDoorBar
import Derived.Test.YtmioaeaobefphaaDoorBaq

namespace Go.Proofs.YtmioaeaobefphaaDoor
open Go.RowKit 
set_option linter.unusedVariables false
set_option linter.unusedSimpArgs false
set_option maxRecDepth 100000
set_option maxHeartbeats 4000000
theorem inBlock_other {id id2 : Nat} (h : id ≠ id2) {Q : Exit → Act → World → Prop} {a : Act} {w : World} (hq : Q (.exit id) a w) : Exit.inBlock id2 Q (.exit id) a w := by
  show (if id = id2 then Q .normal a w else Q (.exit id) a w)
  rw [if_neg h]; exact hq
theorem inBlock_same {id : Nat} {Q : Exit → Act → World → Prop} {a : Act} {w : World} (hq : Q .normal a w) : Exit.inBlock id Q (.exit id) a w := by
  show (if id = id then Q .normal a w else Q (.exit id) a w)
  rw [if_pos rfl]; exact hq
theorem Pl.V_exitOut {P : Program} {Q : Exit → Act → World → Prop} {n : Nat} {ds : List Deferred} {cs cs1 cs2 cs' : List Code} {l : List (Nat × Value)} {w : World} {N : Act → World → Prop} (h : Pl.V P Q n ds cs l w) :
    Pl.V P (Exit.inBlock 1 (Pl.Ks P (Exit.then N (Pl.Ks P (Exit.inBlock 0 (Pl.Ks P Q cs)) cs1)) cs2)) n ds (.exit 0 :: cs') l w := fun a ha => wp_exit (by
  refine Pl.Ks_exit (inBlock_other (by decide) (Pl.Ks_exit ?_))
  show Pl.Ks P (Exit.inBlock 0 (Pl.Ks P Q cs)) cs1 (.exit 0) a w
  exact Pl.Ks_exit (inBlock_same (h a ha)))
theorem tm_nat (a b : Nat) : ((a : Int)).tmod (b : Int) = ((a % b : Nat) : Int) := rfl
theorem T.recs_mono (l : List T.Ent) {i j : Nat} (h : i ≤ j) : (T.recs (l.take i)).length ≤ (T.recs (l.take j)).length := by
  have := recs_take_le (l.take j) i
  rwa [List.take_take, Nat.min_eq_left h] at this
theorem Es.head {w : World} {lo n c k : Nat} {A : Option Addr} {l : List T.Ent} (h : Es w lo (.slice A n c) l) (h1 : k ≤ l.length) : Es w lo (.slice A k c) (l.take k) := by
  have e0 : n = l.length := by obtain ⟨_, _, e, _⟩ := id h; cases e; rfl
  subst e0
  have := Pl.Sl.cut (s := 2) h (by rw [cE_len]) (Nat.zero_le k) h1
  rw [cutA_zero] at this
  unfold Es
  rw [List.length_take, Nat.min_eq_left h1]
  have e : cE (l.take k) = ((cE l).drop (0 * 2)).take ((k - 0) * 2) := by
    rw [Nat.zero_mul, List.drop_zero, Nat.sub_zero]
    have h2 : cE l = cE (l.take k) ++ cE (l.drop k) := by rw [← cE_append, List.take_append_drop]
    rw [h2, List.take_left' (by rw [cE_len, List.length_take, Nat.min_eq_left h1])]
  rw [e]; simpa using this
theorem r_eqlb {a b : Bool} (c : Bool) (h : (a == b) = c) {x y : Operand} (X : World) : Pl.Bn Tryd.prog .eql 4 x y (.bool a) (.bool b) X = .ok (.bool c) X := by
  subst h; unfold Pl.Bn; cases a <;> cases b <;> go_simp
theorem written_len (w : World) {v : Value} {lo : Nat} {l : List T.Ent} (hl : Es w lo v l) (hm : ∀ e ∈ l, T.May e) (hg : Gl w) (hb : (T.recs l).length ≤ 10000000) :
    Calls Tryd.prog 22 #[v] w fun e w' => ∃ A c, e = .returned (.tuple #[.slice A (T.recs l).length c, .bool true]) ∧ Pl.Ex w w' :=
  (written_calls w hl hm hg hb).mono fun e w' ⟨v', h1, h2, h3⟩ => by
    obtain ⟨A, c, rfl, _⟩ := Pl.Gr.shp h2
    exact ⟨A, c, h1, h3⟩
theorem StoreCut_walk (w : World) {v : Value} {lo : Nat} {l : List T.Ent} (hl : Es w lo v l) (p : Nat) (hp : p < 65536) (hg : Gl w) :
    Calls Tryd.prog 5 #[v, .int .u16 ((p : Nat) : Int)] w fun e w' => e = .returned (.bool true) ∧ Pl.Ex w w' := by
  obtain ⟨Al, cl, rfl, hnl0, hcl⟩ := hl.sh
  refine Pl.calls_by (n := 105) (vs := [.slice Al l.length cl, .int .u16 ((p : Nat) : Int)]) Tryd.func5 rfl (by kernel_rfl) (by simp) ?_
  repeat refine Pl.V_seq ?_
  refine Pl.V_region (by kernel_rfl) ?_
  refine Pl.qA_go trivial rfl ?_
  refine Pl.pA_end ?_
  repeat refine Pl.V_seq ?_
  refine Pl.V_region (by kernel_rfl) ?_
  refine Pl.pA_call rfl rfl rfl rfl rfl (fun u X => Pl.enters Tryd.func11 (by kernel_rfl) rfl u X) ?_
  refine Calls.mono (head_calls _ (hg.ex (Pl.Ex.refl _))) ?_
  rintro e w1 ⟨rfl, hE1⟩
  have sz1 := Pl.Ex.size hE1
  refine ⟨_, rfl, trivial, ?_⟩
  refine Pl.qA_go trivial rfl ?_
  refine Pl.pA_end ?_
  repeat refine Pl.V_seq ?_
  refine Pl.V_region (by kernel_rfl) ?_
  refine Pl.qA_go trivial rfl ?_
  refine Pl.pA_call rfl rfl rfl rfl rfl (fun u X => Pl.enters Tryd.func21 (by kernel_rfl) rfl u X) ?_
  refine Calls.mono (made_calls _ (Es.ex hl hE1) 12 (by omega)) ?_
  rintro e w2 ⟨vm, rfl, hM, hE2⟩
  have hmay := T.made_may l 12
  have hmr := T.made_recs l 12
  have hml := T.made_len l 12
  generalize T.made l 12 = M at *
  obtain ⟨Am, cm, rfl, hnm, hcm⟩ := Es.sh hM
  have sz2 := Pl.Ex.size hE2
  refine ⟨_, rfl, trivial, ?_⟩
  refine Pl.qA_go trivial rfl ?_
  refine Pl.pA_end ?_
  repeat refine Pl.V_seq ?_
  refine Pl.V_region (by kernel_rfl) ?_
  refine Pl.qA_go trivial rfl ?_
  refine Pl.pA_call rfl rfl rfl rfl rfl (fun u X => Pl.enters Tryd.func22 (by kernel_rfl) rfl u X) ?_
  refine Calls.mono (written_calls _ (Es.ex hM (Pl.Ex.refl _)) hmay (hg.ex (Pl.Ex.trans hE1 hE2)) (by omega)) ?_
  rintro e w3 ⟨vl, rfl, hG, hE3⟩
  obtain ⟨A5, c5, rfl, hc5⟩ := Pl.Gr.shp hG
  have hL := Gy.by hG (by omega)
  have sz3 := Pl.Ex.size hE3
  refine ⟨_, rfl, trivial, ?_⟩
  refine Pl.qA_go trivial rfl ?_
  refine Pl.pA_end ?_
  repeat refine Pl.V_seq ?_
  refine Pl.V_region (by kernel_rfl) ?_
  refine Pl.qA_go trivial rfl ?_
  refine Pl.qA_cv (c := ((p : Nat) : Int)) Tryd.underlying3 (by kernel_rfl) (Pl.c_id (a := p) rfl (Pl.w64 (by omega) (by omega))) trivial rfl rfl rfl rfl rfl ?_
  refine Pl.qA_go trivial rfl ?_
  refine Pl.qA_ln Tryd.underlying22 trivial rfl rfl rfl rfl rfl ?_
  refine Pl.qA_b (v := .int .i64 ((((T.recs M).length + 1) : Nat) : Int)) (fun X => Pl.r_add (Pl.a64 (a := (T.recs M).length) (b := 1) rfl rfl (by omega)) X) trivial rfl rfl rfl rfl rfl rfl ?_
  refine Pl.qA_b (v := .int .i64 (((p % ((T.recs M).length + 1)) : Nat) : Int)) (fun X => Pl.r_rem (by omega) (tm_nat p ((T.recs M).length + 1)) X) trivial rfl rfl rfl rfl rfl rfl ?_
  refine Pl.qA_go trivial rfl ?_
  refine Pl.pA_end ?_
  have hkl : (p % ((T.recs M).length + 1)) < (T.recs M).length + 1 := Nat.mod_lt _ (by omega)
  generalize (p % ((T.recs M).length + 1)) = k at *
  obtain ⟨mm, hm1, hm2, hm3, hrd⟩ := T.rd_take M k hmay (by omega)
  repeat refine Pl.V_seq ?_
  refine Pl.V_region (by kernel_rfl) ?_
  refine Pl.qA_go trivial rfl ?_
  refine Pl.qA_sl (kl := .i64) (kh := .i64) (lo' := 0) (hi' := k) (s := 1) Tryd.underlying22 (by kernel_rfl) (.inl ⟨rfl, rfl⟩) (.inr ⟨_, _, rfl, rfl, rfl⟩) (by omega) (by omega) trivial rfl rfl rfl rfl rfl ?_
  rw [cutA_zero]
  refine Pl.pA_call rfl rfl rfl rfl rfl (fun u X => Pl.enters Tryd.func14 (by kernel_rfl) rfl u X) ?_
  refine Calls.mono (read_calls _ (By.head (k := k) (By.ex hL (Pl.Ex.refl _)) (by omega)) (hg.ex (Pl.Ex.trans hE1 (Pl.Ex.trans hE2 hE3))) (by rw [List.length_take]; omega)) ?_
  rintro e w4 ⟨rv, rfl, hR, hE4⟩
  rw [hrd] at hR ⊢
  have sz4 := Pl.Ex.size hE4
  refine ⟨_, rfl, trivial, ?_⟩
  refine Pl.qA_go trivial rfl ?_
  refine Pl.pA_end ?_
  repeat refine Pl.V_seq ?_
  refine Pl.V_region (by kernel_rfl) ?_
  refine Pl.qA_go trivial rfl ?_
  refine Pl.pA_end ?_
  repeat refine Pl.V_seq ?_
  refine Pl.V_block ?_
  repeat refine Pl.V_seq ?_
  refine Pl.V_sub [(5, .bool true), (6, .slice Am M.length cm), (8, .bool true), (9, .int .i64 ((k : Nat) : Int)), (10, rv), (11, .int .i64 (((T.recs (M.take mm)).length : Nat) : Int)), (12, .int .i64 (((if k = (T.recs (M.take mm)).length then 0 else 301) : Nat) : Int)), (13, .int .i64 0)] (Pl.subl_cons rfl (Pl.subl_cons rfl (Pl.subl_cons rfl (Pl.subl_cons rfl (Pl.subl_cons rfl (Pl.subl_cons rfl (Pl.subl_cons rfl (Pl.subl_cons rfl Pl.subl_nil)))))))) ?_
  have hMb := Es.ex hM (Pl.Ex.trans hE3 hE4)
  have hRb := Es.ex hR (Pl.Ex.refl _)
  have hgb := hg.ex (Pl.Ex.trans hE1 (Pl.Ex.trans hE2 (Pl.Ex.trans hE3 hE4)))
  have hXb := (Pl.Ex.trans hE1 (Pl.Ex.trans hE2 (Pl.Ex.trans hE3 hE4)))
  refine Pl.V_loop (fun kk l' w' => ∃ q, q + kk = M.length ∧ q ≤ mm ∧ Pl.Ex w4 w' ∧ l' = [(5, .bool true), (6, .slice Am M.length cm), (8, .bool true), (9, .int .i64 ((k : Nat) : Int)), (10, rv), (11, .int .i64 (((T.recs (M.take mm)).length : Nat) : Int)), (12, .int .i64 (((if k = (T.recs (M.take mm)).length then 0 else 301) : Nat) : Int)), (13, .int .i64 ((q : Nat) : Int))]) M.length ⟨0, by omega, by omega, Pl.Ex.refl _, rfl⟩ ?_
  rintro kk _ Z ⟨q, hq, hqm, hZ, rfl⟩
  by_cases hlt : q < M.length
  · repeat refine Pl.V_seq ?_
    refine Pl.V_region (by kernel_rfl) ?_
    refine Pl.qA_go trivial rfl ?_
    refine Pl.qA_ln Tryd.underlying29 trivial rfl rfl rfl rfl rfl ?_
    refine Pl.qA_b (v := .bool true) (fun X => Pl.r_lss (decide_eq_true (by omega)) X) trivial rfl rfl rfl rfl rfl rfl ?_
    refine Pl.pA_end ?_
    repeat refine Pl.V_seq ?_
    refine Pl.V_true rfl ?_
    repeat refine Pl.V_seq ?_
    refine Pl.V_skip ?_
    repeat refine Pl.V_seq ?_
    refine Pl.V_block ?_
    repeat refine Pl.V_seq ?_
    refine Pl.V_region (by kernel_rfl) ?_
    refine Pl.qA_go trivial rfl ?_
    refine Pl.qA_b (v := .int .i64 (((q + 1) : Nat) : Int)) (fun X => Pl.r_add (Pl.a64 (a := q) (b := 1) rfl rfl (by omega)) X) trivial rfl rfl rfl rfl rfl rfl ?_
    refine Pl.qA_sl (kl := .i64) (kh := .i64) (lo' := 0) (hi' := ((q + 1))) (s := 2) Tryd.underlying29 (by kernel_rfl) (.inl ⟨rfl, rfl⟩) (.inr ⟨_, _, rfl, rfl, rfl⟩) (by omega) (by omega) trivial rfl rfl rfl rfl rfl ?_
    rw [cutA_zero]
    refine Pl.pA_call rfl rfl rfl rfl rfl (fun u X => Pl.enters Tryd.func22 (by kernel_rfl) rfl u X) ?_
    refine Calls.mono (written_len _ (Es.head (Es.ex (Es.ex hMb hZ) (Pl.Ex.refl _)) (by omega)) (fun e he => hmay e (List.mem_of_mem_take he)) (hgb.ex (Pl.Ex.trans hZ (Pl.Ex.refl _))) (by have := recs_take_le M (q + 1); omega)) ?_
    rintro e w1 ⟨Ap, cp, rfl, hE1⟩
    have sz1 := Pl.Ex.size hE1
    refine ⟨_, rfl, trivial, ?_⟩
    refine Pl.qA_go trivial rfl ?_
    refine Pl.pA_end ?_
    by_cases hgt : (T.recs (M.take (q + 1))).length > k
    · repeat refine Pl.V_seq ?_
      refine Pl.V_region (by kernel_rfl) ?_
      refine Pl.qA_go trivial rfl ?_
      refine Pl.qA_un (v := .bool false) trivial rfl rfl rfl rfl rfl (fun X => rfl) ?_
      refine Pl.qA_go trivial rfl ?_
      refine Pl.qA_ln Tryd.underlying22 trivial rfl rfl rfl rfl rfl ?_
      refine Pl.qA_go trivial rfl ?_
      refine Pl.qA_b (v := .bool true) (fun X => Pl.r_gtr (decide_eq_true (by omega)) X) trivial rfl rfl rfl rfl rfl rfl ?_
      refine Pl.qA_go trivial rfl ?_
      refine Pl.pA_end ?_
      repeat refine Pl.V_seq ?_
      refine Pl.V_true rfl ?_
      repeat refine Pl.V_seq ?_
      refine Pl.V_exitOut ?_
      have hle : mm ≤ q := by
        apply Nat.le_of_not_lt
        intro hlt2
        have := T.recs_mono M (show q + 1 ≤ mm by omega)
        omega
      obtain rfl : q = mm := by omega
      repeat refine Pl.V_seq ?_
      refine Pl.V_region (by kernel_rfl) ?_
      refine Pl.qA_go trivial rfl ?_
      refine Pl.qA_sl (kl := .i64) (kh := .i64) (lo' := 0) (hi' := q) (s := 2) Tryd.underlying29 (by kernel_rfl) (.inl ⟨rfl, rfl⟩) (.inr ⟨_, _, rfl, rfl, rfl⟩) (by omega) (by omega) trivial rfl rfl rfl rfl rfl ?_
      rw [cutA_zero]
      refine Pl.pA_call rfl rfl rfl rfl rfl (fun u X => Pl.enters Tryd.func22 (by kernel_rfl) rfl u X) ?_
      refine Calls.mono (written_len _ (Es.head (Es.ex (Es.ex hMb hZ) hE1) (by omega)) (fun e he => hmay e (List.mem_of_mem_take he)) (hgb.ex (Pl.Ex.trans hZ hE1)) (by have := recs_take_le M q; omega)) ?_
      rintro e w2 ⟨Ae, ce, rfl, hE2⟩
      have sz2 := Pl.Ex.size hE2
      refine ⟨_, rfl, trivial, ?_⟩
      refine Pl.qA_go trivial rfl ?_
      refine Pl.pA_end ?_
      by_cases hke : k = (T.recs (M.take q)).length
      · rw [if_pos hke]
        repeat refine Pl.V_seq ?_
        refine Pl.V_region (by kernel_rfl) ?_
        refine Pl.qA_go trivial rfl ?_
        refine Pl.qA_sl (kl := .i64) (kh := .i64) (lo' := 0) (hi' := q) (s := 2) Tryd.underlying29 (by kernel_rfl) (.inl ⟨rfl, rfl⟩) (.inr ⟨_, _, rfl, rfl, rfl⟩) (by omega) (by omega) trivial rfl rfl rfl rfl rfl ?_
        rw [cutA_zero]
        refine Pl.pA_call rfl rfl rfl rfl rfl (fun u X => Pl.enters Tryd.func16 (by kernel_rfl) rfl u X) ?_
        refine Calls.mono (same_eq _ (Es.ex (Es.ex hRb hZ) (Pl.Ex.trans hE1 hE2)) (Es.head (Es.ex (Es.ex hMb hZ) (Pl.Ex.trans hE1 hE2)) (by omega)) rfl) ?_
        rintro e w3 ⟨rfl, hE3⟩
        have sz3 := Pl.Ex.size hE3
        refine ⟨_, rfl, trivial, ?_⟩
        refine Pl.qA_go trivial rfl ?_
        refine Pl.qA_ln Tryd.underlying22 trivial rfl rfl rfl rfl rfl ?_
        refine Pl.qA_b (v := .bool true) (fun X => Pl.r_eql (Pl.e_t rfl) X) trivial rfl rfl rfl rfl rfl rfl ?_
        refine Pl.qA_go trivial rfl ?_
        refine Pl.qA_b (v := .bool true) (fun X => Pl.r_eql (Pl.e_t (by omega)) X) trivial rfl rfl rfl rfl rfl rfl ?_
        refine Pl.qA_go trivial rfl ?_
        refine Pl.qA_b (v := .bool true) (fun X => Pl.r_eql (Pl.e_t (by omega)) X) trivial rfl rfl rfl rfl rfl rfl ?_
        refine Pl.qA_b (v := .bool true) (fun X => r_eqlb true rfl X) trivial rfl rfl rfl rfl rfl rfl ?_
        refine Pl.qA_go trivial rfl ?_
        refine Pl.qA_b (v := .bool true) (fun X => Pl.r_eql (Pl.e_t (by omega)) X) trivial rfl rfl rfl rfl rfl rfl ?_
        refine Pl.qA_go trivial rfl ?_
        refine Pl.pA_end ?_
        repeat refine Pl.V_seq ?_
        exact Pl.post_ret rfl rfl ⟨rfl, Pl.Ex.trans hXb (Pl.Ex.trans hZ (Pl.Ex.trans hE1 (Pl.Ex.trans hE2 hE3)))⟩
      · rw [if_neg hke]
        repeat refine Pl.V_seq ?_
        refine Pl.V_region (by kernel_rfl) ?_
        refine Pl.qA_go trivial rfl ?_
        refine Pl.qA_sl (kl := .i64) (kh := .i64) (lo' := 0) (hi' := q) (s := 2) Tryd.underlying29 (by kernel_rfl) (.inl ⟨rfl, rfl⟩) (.inr ⟨_, _, rfl, rfl, rfl⟩) (by omega) (by omega) trivial rfl rfl rfl rfl rfl ?_
        rw [cutA_zero]
        refine Pl.pA_call rfl rfl rfl rfl rfl (fun u X => Pl.enters Tryd.func16 (by kernel_rfl) rfl u X) ?_
        refine Calls.mono (same_eq _ (Es.ex (Es.ex hRb hZ) (Pl.Ex.trans hE1 hE2)) (Es.head (Es.ex (Es.ex hMb hZ) (Pl.Ex.trans hE1 hE2)) (by omega)) rfl) ?_
        rintro e w3 ⟨rfl, hE3⟩
        have sz3 := Pl.Ex.size hE3
        refine ⟨_, rfl, trivial, ?_⟩
        refine Pl.qA_go trivial rfl ?_
        refine Pl.qA_ln Tryd.underlying22 trivial rfl rfl rfl rfl rfl ?_
        refine Pl.qA_b (v := .bool true) (fun X => Pl.r_eql (Pl.e_t rfl) X) trivial rfl rfl rfl rfl rfl rfl ?_
        refine Pl.qA_go trivial rfl ?_
        refine Pl.qA_b (v := .bool false) (fun X => Pl.r_eql (Pl.e_f (by omega)) X) trivial rfl rfl rfl rfl rfl rfl ?_
        refine Pl.qA_go trivial rfl ?_
        refine Pl.qA_b (v := .bool false) (fun X => Pl.r_eql (Pl.e_f (by omega)) X) trivial rfl rfl rfl rfl rfl rfl ?_
        refine Pl.qA_b (v := .bool true) (fun X => r_eqlb true rfl X) trivial rfl rfl rfl rfl rfl rfl ?_
        refine Pl.qA_go trivial rfl ?_
        refine Pl.qA_b (v := .bool false) (fun X => Pl.r_eql (Pl.e_f (by omega)) X) trivial rfl rfl rfl rfl rfl rfl ?_
        refine Pl.qA_go trivial rfl ?_
        refine Pl.qA_b (v := .bool true) (fun X => Pl.r_eql (Pl.e_t (by omega)) X) trivial rfl rfl rfl rfl rfl rfl ?_
        refine Pl.qA_go trivial rfl ?_
        refine Pl.pA_end ?_
        repeat refine Pl.V_seq ?_
        exact Pl.post_ret rfl rfl ⟨rfl, Pl.Ex.trans hXb (Pl.Ex.trans hZ (Pl.Ex.trans hE1 (Pl.Ex.trans hE2 hE3)))⟩
    · repeat refine Pl.V_seq ?_
      refine Pl.V_region (by kernel_rfl) ?_
      refine Pl.qA_go trivial rfl ?_
      refine Pl.qA_un (v := .bool false) trivial rfl rfl rfl rfl rfl (fun X => rfl) ?_
      refine Pl.qA_go trivial rfl ?_
      refine Pl.qA_ln Tryd.underlying22 trivial rfl rfl rfl rfl rfl ?_
      refine Pl.qA_go trivial rfl ?_
      refine Pl.qA_b (v := .bool false) (fun X => Pl.r_gtr (decide_eq_false (by omega)) X) trivial rfl rfl rfl rfl rfl rfl ?_
      refine Pl.qA_go trivial rfl ?_
      refine Pl.pA_end ?_
      repeat refine Pl.V_seq ?_
      refine Pl.V_false rfl ?_
      repeat refine Pl.V_seq ?_
      refine Pl.V_skip ?_
      have hlt2 : q < mm := by
        apply Nat.lt_of_le_of_ne hqm
        intro e
        subst e
        have := hm3 hlt
        omega
      repeat refine Pl.V_seq ?_
      refine Pl.V_region (by kernel_rfl) ?_
      refine Pl.qA_go trivial rfl ?_
      refine Pl.qA_b (v := .int .i64 (((q + 1) : Nat) : Int)) (fun X => Pl.r_add (Pl.a64 (a := q) (b := 1) rfl rfl (by omega)) X) trivial rfl rfl rfl rfl rfl rfl ?_
      refine Pl.qA_go trivial rfl ?_
      refine Pl.pA_end ?_
      repeat refine Pl.V_seq ?_
      refine Pl.V_endblock ?_
      refine Pl.V_again [(5, .bool true), (6, .slice Am M.length cm), (8, .bool true), (9, .int .i64 ((k : Nat) : Int)), (10, rv), (11, .int .i64 (((T.recs (M.take mm)).length : Nat) : Int)), (12, .int .i64 (((if k = (T.recs (M.take mm)).length then 0 else 301) : Nat) : Int)), (13, .int .i64 (((q + 1) : Nat) : Int))] (Pl.subl_cons rfl (Pl.subl_cons rfl (Pl.subl_cons rfl (Pl.subl_cons rfl (Pl.subl_cons rfl (Pl.subl_cons rfl (Pl.subl_cons rfl (Pl.subl_cons rfl Pl.subl_nil)))))))) (k' := kk - 1) (by omega) ⟨q + 1, by omega, by omega, Pl.Ex.trans hZ hE1, rfl⟩
  · repeat refine Pl.V_seq ?_
    refine Pl.V_region (by kernel_rfl) ?_
    refine Pl.qA_go trivial rfl ?_
    refine Pl.qA_ln Tryd.underlying29 trivial rfl rfl rfl rfl rfl ?_
    refine Pl.qA_b (v := .bool false) (fun X => Pl.r_lss (decide_eq_false (by omega)) X) trivial rfl rfl rfl rfl rfl rfl ?_
    refine Pl.pA_end ?_
    repeat refine Pl.V_seq ?_
    refine Pl.V_false rfl ?_
    repeat refine Pl.V_seq ?_
    refine Pl.V_exit ?_
    obtain rfl : q = mm := by omega
    repeat refine Pl.V_seq ?_
    refine Pl.V_region (by kernel_rfl) ?_
    refine Pl.qA_go trivial rfl ?_
    refine Pl.qA_sl (kl := .i64) (kh := .i64) (lo' := 0) (hi' := q) (s := 2) Tryd.underlying29 (by kernel_rfl) (.inl ⟨rfl, rfl⟩) (.inr ⟨_, _, rfl, rfl, rfl⟩) (by omega) (by omega) trivial rfl rfl rfl rfl rfl ?_
    rw [cutA_zero]
    refine Pl.pA_call rfl rfl rfl rfl rfl (fun u X => Pl.enters Tryd.func22 (by kernel_rfl) rfl u X) ?_
    refine Calls.mono (written_len _ (Es.head (Es.ex (Es.ex hMb hZ) (Pl.Ex.refl _)) (by omega)) (fun e he => hmay e (List.mem_of_mem_take he)) (hgb.ex (Pl.Ex.trans hZ (Pl.Ex.refl _))) (by have := recs_take_le M q; omega)) ?_
    rintro e w1 ⟨Ae, ce, rfl, hE1⟩
    have sz1 := Pl.Ex.size hE1
    refine ⟨_, rfl, trivial, ?_⟩
    refine Pl.qA_go trivial rfl ?_
    refine Pl.pA_end ?_
    by_cases hke : k = (T.recs (M.take q)).length
    · rw [if_pos hke]
      repeat refine Pl.V_seq ?_
      refine Pl.V_region (by kernel_rfl) ?_
      refine Pl.qA_go trivial rfl ?_
      refine Pl.qA_sl (kl := .i64) (kh := .i64) (lo' := 0) (hi' := q) (s := 2) Tryd.underlying29 (by kernel_rfl) (.inl ⟨rfl, rfl⟩) (.inr ⟨_, _, rfl, rfl, rfl⟩) (by omega) (by omega) trivial rfl rfl rfl rfl rfl ?_
      rw [cutA_zero]
      refine Pl.pA_call rfl rfl rfl rfl rfl (fun u X => Pl.enters Tryd.func16 (by kernel_rfl) rfl u X) ?_
      refine Calls.mono (same_eq _ (Es.ex (Es.ex hRb hZ) hE1) (Es.head (Es.ex (Es.ex hMb hZ) hE1) (by omega)) rfl) ?_
      rintro e w2 ⟨rfl, hE2⟩
      have sz2 := Pl.Ex.size hE2
      refine ⟨_, rfl, trivial, ?_⟩
      refine Pl.qA_go trivial rfl ?_
      refine Pl.qA_ln Tryd.underlying22 trivial rfl rfl rfl rfl rfl ?_
      refine Pl.qA_b (v := .bool true) (fun X => Pl.r_eql (Pl.e_t rfl) X) trivial rfl rfl rfl rfl rfl rfl ?_
      refine Pl.qA_go trivial rfl ?_
      refine Pl.qA_b (v := .bool true) (fun X => Pl.r_eql (Pl.e_t (by omega)) X) trivial rfl rfl rfl rfl rfl rfl ?_
      refine Pl.qA_go trivial rfl ?_
      refine Pl.qA_b (v := .bool true) (fun X => Pl.r_eql (Pl.e_t (by omega)) X) trivial rfl rfl rfl rfl rfl rfl ?_
      refine Pl.qA_b (v := .bool true) (fun X => r_eqlb true rfl X) trivial rfl rfl rfl rfl rfl rfl ?_
      refine Pl.qA_go trivial rfl ?_
      refine Pl.qA_b (v := .bool true) (fun X => Pl.r_eql (Pl.e_t (by omega)) X) trivial rfl rfl rfl rfl rfl rfl ?_
      refine Pl.qA_go trivial rfl ?_
      refine Pl.pA_end ?_
      repeat refine Pl.V_seq ?_
      exact Pl.post_ret rfl rfl ⟨rfl, Pl.Ex.trans hXb (Pl.Ex.trans hZ (Pl.Ex.trans hE1 hE2))⟩
    · rw [if_neg hke]
      repeat refine Pl.V_seq ?_
      refine Pl.V_region (by kernel_rfl) ?_
      refine Pl.qA_go trivial rfl ?_
      refine Pl.qA_sl (kl := .i64) (kh := .i64) (lo' := 0) (hi' := q) (s := 2) Tryd.underlying29 (by kernel_rfl) (.inl ⟨rfl, rfl⟩) (.inr ⟨_, _, rfl, rfl, rfl⟩) (by omega) (by omega) trivial rfl rfl rfl rfl rfl ?_
      rw [cutA_zero]
      refine Pl.pA_call rfl rfl rfl rfl rfl (fun u X => Pl.enters Tryd.func16 (by kernel_rfl) rfl u X) ?_
      refine Calls.mono (same_eq _ (Es.ex (Es.ex hRb hZ) hE1) (Es.head (Es.ex (Es.ex hMb hZ) hE1) (by omega)) rfl) ?_
      rintro e w2 ⟨rfl, hE2⟩
      have sz2 := Pl.Ex.size hE2
      refine ⟨_, rfl, trivial, ?_⟩
      refine Pl.qA_go trivial rfl ?_
      refine Pl.qA_ln Tryd.underlying22 trivial rfl rfl rfl rfl rfl ?_
      refine Pl.qA_b (v := .bool true) (fun X => Pl.r_eql (Pl.e_t rfl) X) trivial rfl rfl rfl rfl rfl rfl ?_
      refine Pl.qA_go trivial rfl ?_
      refine Pl.qA_b (v := .bool false) (fun X => Pl.r_eql (Pl.e_f (by omega)) X) trivial rfl rfl rfl rfl rfl rfl ?_
      refine Pl.qA_go trivial rfl ?_
      refine Pl.qA_b (v := .bool false) (fun X => Pl.r_eql (Pl.e_f (by omega)) X) trivial rfl rfl rfl rfl rfl rfl ?_
      refine Pl.qA_b (v := .bool true) (fun X => r_eqlb true rfl X) trivial rfl rfl rfl rfl rfl rfl ?_
      refine Pl.qA_go trivial rfl ?_
      refine Pl.qA_b (v := .bool false) (fun X => Pl.r_eql (Pl.e_f (by omega)) X) trivial rfl rfl rfl rfl rfl rfl ?_
      refine Pl.qA_go trivial rfl ?_
      refine Pl.qA_b (v := .bool true) (fun X => Pl.r_eql (Pl.e_t (by omega)) X) trivial rfl rfl rfl rfl rfl rfl ?_
      refine Pl.qA_go trivial rfl ?_
      refine Pl.pA_end ?_
      repeat refine Pl.V_seq ?_
      exact Pl.post_ret rfl rfl ⟨rfl, Pl.Ex.trans hXb (Pl.Ex.trans hZ (Pl.Ex.trans hE1 hE2))⟩
end Go.Proofs.YtmioaeaobefphaaDoor
/- Proved: the statement StoreCut. -/
namespace Go.Proofs.YtmioaeaobefphaaDoor
open Go.ChangeShapes Go.WideShapes Go.ChangeAt Go.RowKit
set_option linter.unusedVariables false
set_option maxHeartbeats 2000000

set_option maxRecDepth 100000 in
theorem lifted_StoreCut (os : Os) (started : os.Started) (H : Type) (enc : TypeId × Value → H) :
    ReturnsInHanded {} Tryd.checked os 5 .any (fun w args => (Rows.storeCutSpec.pre enc Tryd.prog Tryd.f5 [] false w args ∧ laidMetH Tryd.prog laidV w) ∧ sizedMet enc Tryd.prog Tryd.f5 (OpenSpec.ofChange Rows.storeCutSpec) false w args)
      (Rows.storeCutSpec.post enc Tryd.prog Tryd.f5 false true false false) := by
  refine returnsInHanded_of_change_and (C := Tryd.checked) (X := fun w _ => laidMetH Tryd.prog laidV w) (fun _ _ _ hh h => h.of_heap hh) own started (by kernel_rfl) Tryd.func5
    (ChangeSpec.witness_shaped (enc := enc) (C := Tryd.checked) (os := os) (X := fun w _ => laidMetH Tryd.prog laidV w) false (World.doorLaid Tryd.prog 400 os) #[.slice none 0 0, .int .u16 0] 8 rfl (World.shaped_of_RefB (by kernel_rfl) (by kernel_rfl)) (by kernel_rfl) (by kernel_rfl) (by kernel_rfl) (door_met os _)) ?_
  intro W base args ds gs before hval0 hW _ _ hL _
  have hval : ∀ (j : Nat) t v, Tryd.f5.params[j]? = some t → args[j]? = some v → Value.okWide Tryd.prog W .any base t v := hval0
  have hW' := hW
  obtain ⟨p, q, hA0, hV, rfl, hfz, hnd⟩ := hW
  have hlt : ∀ x ∈ p ++ q, x.block < W.heap.size := fun x hx => hW'.lt x hx
  have hA : DataW.TrodAll enc Tryd.prog W 0 (fun _ => true) true Tryd.f5.params.toList args.toList ds p := hA0
  rw [Tryd.params5] at hA hval
  clear hA0 hval0
  obtain ⟨v0, vs0, d0, ds0, p0, q0, hargs0, rfl, rfl, h0, r0⟩ := trodAll_cons hA
  obtain ⟨v1, vs1, d1, ds1, p1, q1, hargs1, rfl, rfl, h1, r1⟩ := trodAll_cons r0
  obtain ⟨hn1, rfl, rfl⟩ := trodAll_nil r1
  subst hn1
  subst hargs1
  obtain rfl : args = #[v0, v1] := by cases args; simp_all
  obtain ⟨rfl, rfl⟩ := trodVars_none hV
  obtain ⟨l0, u0⟩ := open_entries (hval 0 29 v0 rfl rfl) h0 (fun x hx => hlt x (by simp [hx]))
  obtain ⟨z1, rfl, rfl, rfl, hz1⟩ := open_int Tryd.underlying41 (hval 1 41 v1 rfl rfl) h1
  have hb1 := bounds_u16 hz1
  obtain ⟨n1, rfl⟩ := Int.eq_ofNat_of_zero_le (show 0 ≤ z1 by omega)
  refine (StoreCut_walk W u0 n1 (by omega) (gl_of_laid hL)).mono fun e W' ⟨he, hB⟩ => ?_
  subst he
  exact ⟨_, rfl, law_post hW' rfl (by rw [Tryd.params5]; decide +kernel) rfl rfl rfl rfl hB⟩

theorem storeCut_said : Rows.StoreCutSaid :=
  OpenClaim.holds_of_wide 5 Tryd.f5 rfl rfl rfl rfl rfl rfl rfl ⟨rfl, rfl, rfl, rfl, rfl⟩ rfl rfl rfl rfl rfl (by kernel_rfl) Tryd.func5 (by kernel_rfl)
    (of_decide_eq_true (by kernel_rfl)) (by unfold Func.isWrapper; first | (rw [if_pos (by decide +kernel)]; kernel_rfl) | (rw [if_neg (by decide +kernel)]; exact ⟨rfl, rfl⟩))
    (fun os started H enc _ => lifted_StoreCut os started H enc)
/-- The statement: the card, tied. -/
theorem storeCut_holds : Rows.StoreCutCardSaid :=
  Claim7.holds_tied_plain_at .later [] [.handle, .data] true Rows.storeCutCard.stood.harness true
    storeCut_said (fun _ h => by cases h) (by kernel_rfl) (fun _ h => by cases h) storeCut_row_tie rfl ⟨rfl, rfl⟩ (by kernel_rfl) rfl
    (fun f fn hf hfn => by
      obtain rfl : f = 5 := Option.some.inj ((show Tryd.prog.funcNamed "ziggurat/zigguratlaw30.StoreCut" = some 5 by kernel_rfl).symm.trans hf) |>.symm
      obtain rfl : fn = Tryd.f5 := (Option.some.inj (Tryd.func5.symm.trans hfn)).symm
      exact ⟨by kernel_rfl, fun j t ht => by
        rw [Tryd.params5] at ht
        have hm : t ∈ [29, 41] := by simpa using Array.mem_of_getElem? ht
        have hall : ([29, 41].all fun u => !Tryd.prog.wantsStandIn u) = true := by kernel_rfl
        exact (show Tryd.prog.wantsStandIn t = false by simpa using List.all_eq_true.1 hall t hm)⟩)
    (by kernel_rfl)
end Go.Proofs.YtmioaeaobefphaaDoor
