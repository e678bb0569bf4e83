/- Proved: the statement StoreFlipped. -/
import Derived.Test.YtmioaeaobefphaaDoorBar
import Derived.Test.YtmioaeaobefphaaDoorBaq

namespace Go.Proofs.YtmioaeaobefphaaDoor
open Go.RowKit 
set_option linter.unusedVariables false
set_option linter.unusedSimpArgs false
set_option maxRecDepth 100000
set_option maxHeartbeats 4000000
theorem inBlock_other {id id2 : Nat} (h : id ≠ id2) {Q : Exit → Act → World → Prop} {a : Act} {w : World} (hq : Q (.exit id) a w) : Exit.inBlock id2 Q (.exit id) a w := by
  show (if id = id2 then Q .normal a w else Q (.exit id) a w)
  rw [if_neg h]; exact hq
theorem inBlock_same {id : Nat} {Q : Exit → Act → World → Prop} {a : Act} {w : World} (hq : Q .normal a w) : Exit.inBlock id Q (.exit id) a w := by
  show (if id = id then Q .normal a w else Q (.exit id) a w)
  rw [if_pos rfl]; exact hq
theorem Pl.V_exitOut {P : Program} {Q : Exit → Act → World → Prop} {n : Nat} {ds : List Deferred} {cs cs1 cs2 cs' : List Code} {l : List (Nat × Value)} {w : World} {N : Act → World → Prop} (h : Pl.V P Q n ds cs l w) :
    Pl.V P (Exit.inBlock 1 (Pl.Ks P (Exit.then N (Pl.Ks P (Exit.inBlock 0 (Pl.Ks P Q cs)) cs1)) cs2)) n ds (.exit 0 :: cs') l w := fun a ha => wp_exit (by
  refine Pl.Ks_exit (inBlock_other (by decide) (Pl.Ks_exit ?_))
  show Pl.Ks P (Exit.inBlock 0 (Pl.Ks P Q cs)) cs1 (.exit 0) a w
  exact Pl.Ks_exit (inBlock_same (h a ha)))
theorem tm_nat (a b : Nat) : ((a : Int)).tmod (b : Int) = ((a % b : Nat) : Int) := rfl
theorem T.recs_mono (l : List T.Ent) {i j : Nat} (h : i ≤ j) : (T.recs (l.take i)).length ≤ (T.recs (l.take j)).length := by
  have := recs_take_le (l.take j) i
  rwa [List.take_take, Nat.min_eq_left h] at this
theorem Es.head {w : World} {lo n c k : Nat} {A : Option Addr} {l : List T.Ent} (h : Es w lo (.slice A n c) l) (h1 : k ≤ l.length) : Es w lo (.slice A k c) (l.take k) := by
  have e0 : n = l.length := by obtain ⟨_, _, e, _⟩ := id h; cases e; rfl
  subst e0
  have := Pl.Sl.cut (s := 2) h (by rw [cE_len]) (Nat.zero_le k) h1
  rw [cutA_zero] at this
  unfold Es
  rw [List.length_take, Nat.min_eq_left h1]
  have e : cE (l.take k) = ((cE l).drop (0 * 2)).take ((k - 0) * 2) := by
    rw [Nat.zero_mul, List.drop_zero, Nat.sub_zero]
    have h2 : cE l = cE (l.take k) ++ cE (l.drop k) := by rw [← cE_append, List.take_append_drop]
    rw [h2, List.take_left' (by rw [cE_len, List.length_take, Nat.min_eq_left h1])]
  rw [e]; simpa using this
theorem r_eqlb {a b : Bool} (c : Bool) (h : (a == b) = c) {x y : Operand} (X : World) : Pl.Bn Tryd.prog .eql 4 x y (.bool a) (.bool b) X = .ok (.bool c) X := by
  subst h; unfold Pl.Bn; cases a <;> cases b <;> go_simp
theorem written_len (w : World) {v : Value} {lo : Nat} {l : List T.Ent} (hl : Es w lo v l) (hm : ∀ e ∈ l, T.May e) (hg : Gl w) (hb : (T.recs l).length ≤ 10000000) :
    Calls Tryd.prog 22 #[v] w fun e w' => ∃ A c, e = .returned (.tuple #[.slice A (T.recs l).length c, .bool true]) ∧ Pl.Ex w w' :=
  (written_calls w hl hm hg hb).mono fun e w' ⟨v', h1, h2, h3⟩ => by
    obtain ⟨A, c, rfl, _⟩ := Pl.Gr.shp h2
    exact ⟨A, c, h1, h3⟩
theorem StoreCut_walk (w : World) {v : Value} {lo : Nat} {l : List T.Ent} (hl : Es w lo v l) (p : Nat) (hp : p < 65536) (hg : Gl w) :
    Calls Tryd.prog 5 #[v, .int .u16 ((p : Nat) : Int)] w fun e w' => e = .returned (.bool true) ∧ Pl.Ex w w' := by
  obtain ⟨Al, cl, rfl, hnl0, hcl⟩ := hl.sh
  refine Pl.calls_by (n := 105) (vs := [.slice Al l.length cl, .int .u16 ((p : Nat) : Int)]) Tryd.func5 rfl (by kernel_rfl) (by simp) ?_
  repeat refine Pl.V_seq ?_
  refine Pl.V_region (by kernel_rfl) ?_
  refine Pl.qA_go trivial rfl ?_
  refine Pl.pA_end ?_
  repeat refine Pl.V_seq ?_
  refine Pl.V_region (by kernel_rfl) ?_
  refine Pl.pA_call rfl rfl rfl rfl rfl (fun u X => Pl.enters Tryd.func11 (by kernel_rfl) rfl u X) ?_
  refine Calls.mono (head_calls _ (hg.ex (Pl.Ex.refl _))) ?_
  rintro e w1 ⟨rfl, hE1⟩
  have sz1 := Pl.Ex.size hE1
  refine ⟨_, rfl, trivial, ?_⟩
  refine Pl.qA_go trivial rfl ?_
  refine Pl.pA_end ?_
  repeat refine Pl.V_seq ?_
  refine Pl.V_region (by kernel_rfl) ?_
  refine Pl.qA_go trivial rfl ?_
  refine Pl.pA_call rfl rfl rfl rfl rfl (fun u X => Pl.enters Tryd.func21 (by kernel_rfl) rfl u X) ?_
  refine Calls.mono (made_calls _ (Es.ex hl hE1) 12 (by omega)) ?_
  rintro e w2 ⟨vm, rfl, hM, hE2⟩
  have hmay := T.made_may l 12
  have hmr := T.made_recs l 12
  have hml := T.made_len l 12
  generalize T.made l 12 = M at *
  obtain ⟨Am, cm, rfl, hnm, hcm⟩ := Es.sh hM
  have sz2 := Pl.Ex.size hE2
  refine ⟨_, rfl, trivial, ?_⟩
  refine Pl.qA_go trivial rfl ?_
  refine Pl.pA_end ?_
  repeat refine Pl.V_seq ?_
  refine Pl.V_region (by kernel_rfl) ?_
  refine Pl.qA_go trivial rfl ?_
  refine Pl.pA_call rfl rfl rfl rfl rfl (fun u X => Pl.enters Tryd.func22 (by kernel_rfl) rfl u X) ?_
  refine Calls.mono (written_calls _ (Es.ex hM (Pl.Ex.refl _)) hmay (hg.ex (Pl.Ex.trans hE1 hE2)) (by omega)) ?_
  rintro e w3 ⟨vl, rfl, hG, hE3⟩
  obtain ⟨A5, c5, rfl, hc5⟩ := Pl.Gr.shp hG
  have hL := Gy.by hG (by omega)
  have sz3 := Pl.Ex.size hE3
  refine ⟨_, rfl, trivial, ?_⟩
  refine Pl.qA_go trivial rfl ?_
  refine Pl.pA_end ?_
  repeat refine Pl.V_seq ?_
  refine Pl.V_region (by kernel_rfl) ?_
  refine Pl.qA_go trivial rfl ?_
  refine Pl.qA_cv (c := ((p : Nat) : Int)) Tryd.underlying3 (by kernel_rfl) (Pl.c_id (a := p) rfl (Pl.w64 (by omega) (by omega))) trivial rfl rfl rfl rfl rfl ?_
  refine Pl.qA_go trivial rfl ?_
  refine Pl.qA_ln Tryd.underlying22 trivial rfl rfl rfl rfl rfl ?_
  refine Pl.qA_b (v := .int .i64 ((((T.recs M).length + 1) : Nat) : Int)) (fun X => Pl.r_add (Pl.a64 (a := (T.recs M).length) (b := 1) rfl rfl (by omega)) X) trivial rfl rfl rfl rfl rfl rfl ?_
  refine Pl.qA_b (v := .int .i64 (((p % ((T.recs M).length + 1)) : Nat) : Int)) (fun X => Pl.r_rem (by omega) (tm_nat p ((T.recs M).length + 1)) X) trivial rfl rfl rfl rfl rfl rfl ?_
  refine Pl.qA_go trivial rfl ?_
  refine Pl.pA_end ?_
  have hkl : (p % ((T.recs M).length + 1)) < (T.recs M).length + 1 := Nat.mod_lt _ (by omega)
  generalize (p % ((T.recs M).length + 1)) = k at *
  obtain ⟨mm, hm1, hm2, hm3, hrd⟩ := T.rd_take M k hmay (by omega)
  repeat refine Pl.V_seq ?_
  refine Pl.V_region (by kernel_rfl) ?_
  refine Pl.qA_go trivial rfl ?_
  refine Pl.qA_sl (kl := .i64) (kh := .i64) (lo' := 0) (hi' := k) (s := 1) Tryd.underlying22 (by kernel_rfl) (.inl ⟨rfl, rfl⟩) (.inr ⟨_, _, rfl, rfl, rfl⟩) (by omega) (by omega) trivial rfl rfl rfl rfl rfl ?_
  rw [cutA_zero]
  refine Pl.pA_call rfl rfl rfl rfl rfl (fun u X => Pl.enters Tryd.func14 (by kernel_rfl) rfl u X) ?_
  refine Calls.mono (read_calls _ (By.head (k := k) (By.ex hL (Pl.Ex.refl _)) (by omega)) (hg.ex (Pl.Ex.trans hE1 (Pl.Ex.trans hE2 hE3))) (by rw [List.length_take]; omega)) ?_
  rintro e w4 ⟨rv, rfl, hR, hE4⟩
  rw [hrd] at hR ⊢
  have sz4 := Pl.Ex.size hE4
  refine ⟨_, rfl, trivial, ?_⟩
  refine Pl.qA_go trivial rfl ?_
  refine Pl.pA_end ?_
  repeat refine Pl.V_seq ?_
  refine Pl.V_region (by kernel_rfl) ?_
  refine Pl.qA_go trivial rfl ?_
  refine Pl.pA_end ?_
  repeat refine Pl.V_seq ?_
  refine Pl.V_block ?_
  repeat refine Pl.V_seq ?_
  refine Pl.V_sub [(5, .bool true), (6, .slice Am M.length cm), (8, .bool true), (9, .int .i64 ((k : Nat) : Int)), (10, rv), (11, .int .i64 (((T.recs (M.take mm)).length : Nat) : Int)), (12, .int .i64 (((if k = (T.recs (M.take mm)).length then 0 else 301) : Nat) : Int)), (13, .int .i64 0)] (Pl.subl_cons rfl (Pl.subl_cons rfl (Pl.subl_cons rfl (Pl.subl_cons rfl (Pl.subl_cons rfl (Pl.subl_cons rfl (Pl.subl_cons rfl (Pl.subl_cons rfl Pl.subl_nil)))))))) ?_
  have hMb := Es.ex hM (Pl.Ex.trans hE3 hE4)
  have hRb := Es.ex hR (Pl.Ex.refl _)
  have hgb := hg.ex (Pl.Ex.trans hE1 (Pl.Ex.trans hE2 (Pl.Ex.trans hE3 hE4)))
  have hXb := (Pl.Ex.trans hE1 (Pl.Ex.trans hE2 (Pl.Ex.trans hE3 hE4)))
  refine Pl.V_loop (fun kk l' w' => ∃ q, q + kk = M.length ∧ q ≤ mm ∧ Pl.Ex w4 w' ∧ l' = [(5, .bool true), (6, .slice Am M.length cm), (8, .bool true), (9, .int .i64 ((k : Nat) : Int)), (10, rv), (11, .int .i64 (((T.recs (M.take mm)).length : Nat) : Int)), (12, .int .i64 (((if k = (T.recs (M.take mm)).length then 0 else 301) : Nat) : Int)), (13, .int .i64 ((q : Nat) : Int))]) M.length ⟨0, by omega, by omega, Pl.Ex.refl _, rfl⟩ ?_
  rintro kk _ Z ⟨q, hq, hqm, hZ, rfl⟩
  by_cases hlt : q < M.length
  · repeat refine Pl.V_seq ?_
    refine Pl.V_region (by kernel_rfl) ?_
    refine Pl.qA_go trivial rfl ?_
    refine Pl.qA_ln Tryd.underlying29 trivial rfl rfl rfl rfl rfl ?_
    refine Pl.qA_b (v := .bool true) (fun X => Pl.r_lss (decide_eq_true (by omega)) X) trivial rfl rfl rfl rfl rfl rfl ?_
    refine Pl.pA_end ?_
    repeat refine Pl.V_seq ?_
    refine Pl.V_true rfl ?_
    repeat refine Pl.V_seq ?_
    refine Pl.V_skip ?_
    repeat refine Pl.V_seq ?_
    refine Pl.V_block ?_
    repeat refine Pl.V_seq ?_
    refine Pl.V_region (by kernel_rfl) ?_
    refine Pl.qA_go trivial rfl ?_
    refine Pl.qA_b (v := .int .i64 (((q + 1) : Nat) : Int)) (fun X => Pl.r_add (Pl.a64 (a := q) (b := 1) rfl rfl (by omega)) X) trivial rfl rfl rfl rfl rfl rfl ?_
    refine Pl.qA_sl (kl := .i64) (kh := .i64) (lo' := 0) (hi' := ((q + 1))) (s := 2) Tryd.underlying29 (by kernel_rfl) (.inl ⟨rfl, rfl⟩) (.inr ⟨_, _, rfl, rfl, rfl⟩) (by omega) (by omega) trivial rfl rfl rfl rfl rfl ?_
    rw [cutA_zero]
    refine Pl.pA_call rfl rfl rfl rfl rfl (fun u X => Pl.enters Tryd.func22 (by kernel_rfl) rfl u X) ?_
    refine Calls.mono (written_len _ (Es.head (Es.ex (Es.ex hMb hZ) (Pl.Ex.refl _)) (by omega)) (fun e he => hmay e (List.mem_of_mem_take he)) (hgb.ex (Pl.Ex.trans hZ (Pl.Ex.refl _))) (by have := recs_take_le M (q + 1); omega)) ?_
    rintro e w1 ⟨Ap, cp, rfl, hE1⟩
    have sz1 := Pl.Ex.size hE1
    refine ⟨_, rfl, trivial, ?_⟩
    refine Pl.qA_go trivial rfl ?_
    refine Pl.pA_end ?_
    by_cases hgt : (T.recs (M.take (q + 1))).length > k
    · repeat refine Pl.V_seq ?_
      refine Pl.V_region (by kernel_rfl) ?_
      refine Pl.qA_go trivial rfl ?_
      refine Pl.qA_un (v := .bool false) trivial rfl rfl rfl rfl rfl (fun X => rfl) ?_
      refine Pl.qA_go trivial rfl ?_
      refine Pl.qA_ln Tryd.underlying22 trivial rfl rfl rfl rfl rfl ?_
      refine Pl.qA_go trivial rfl ?_
      refine Pl.qA_b (v := .bool true) (fun X => Pl.r_gtr (decide_eq_true (by omega)) X) trivial rfl rfl rfl rfl rfl rfl ?_
      refine Pl.qA_go trivial rfl ?_
      refine Pl.pA_end ?_
      repeat refine Pl.V_seq ?_
      refine Pl.V_true rfl ?_
      repeat refine Pl.V_seq ?_
      refine Pl.V_exitOut ?_
      have hle : mm ≤ q := by
        apply Nat.le_of_not_lt
        intro hlt2
        have := T.recs_mono M (show q + 1 ≤ mm by omega)
        omega
      obtain rfl : q = mm := by omega
      repeat refine Pl.V_seq ?_
      refine Pl.V_region (by kernel_rfl) ?_
      refine Pl.qA_go trivial rfl ?_
      refine Pl.qA_sl (kl := .i64) (kh := .i64) (lo' := 0) (hi' := q) (s := 2) Tryd.underlying29 (by kernel_rfl) (.inl ⟨rfl, rfl⟩) (.inr ⟨_, _, rfl, rfl, rfl⟩) (by omega) (by omega) trivial rfl rfl rfl rfl rfl ?_
      rw [cutA_zero]
      refine Pl.pA_call rfl rfl rfl rfl rfl (fun u X => Pl.enters Tryd.func22 (by kernel_rfl) rfl u X) ?_
      refine Calls.mono (written_len _ (Es.head (Es.ex (Es.ex hMb hZ) hE1) (by omega)) (fun e he => hmay e (List.mem_of_mem_take he)) (hgb.ex (Pl.Ex.trans hZ hE1)) (by have := recs_take_le M q; omega)) ?_
      rintro e w2 ⟨Ae, ce, rfl, hE2⟩
      have sz2 := Pl.Ex.size hE2
      refine ⟨_, rfl, trivial, ?_⟩
      refine Pl.qA_go trivial rfl ?_
      refine Pl.pA_end ?_
      by_cases hke : k = (T.recs (M.take q)).length
      · rw [if_pos hke]
        repeat refine Pl.V_seq ?_
        refine Pl.V_region (by kernel_rfl) ?_
        refine Pl.qA_go trivial rfl ?_
        refine Pl.qA_sl (kl := .i64) (kh := .i64) (lo' := 0) (hi' := q) (s := 2) Tryd.underlying29 (by kernel_rfl) (.inl ⟨rfl, rfl⟩) (.inr ⟨_, _, rfl, rfl, rfl⟩) (by omega) (by omega) trivial rfl rfl rfl rfl rfl ?_
        rw [cutA_zero]
        refine Pl.pA_call rfl rfl rfl rfl rfl (fun u X => Pl.enters Tryd.func16 (by kernel_rfl) rfl u X) ?_
        refine Calls.mono (same_eq _ (Es.ex (Es.ex hRb hZ) (Pl.Ex.trans hE1 hE2)) (Es.head (Es.ex (Es.ex hMb hZ) (Pl.Ex.trans hE1 hE2)) (by omega)) rfl) ?_
        rintro e w3 ⟨rfl, hE3⟩
        have sz3 := Pl.Ex.size hE3
        refine ⟨_, rfl, trivial, ?_⟩
        refine Pl.qA_go trivial rfl ?_
        refine Pl.qA_ln Tryd.underlying22 trivial rfl rfl rfl rfl rfl ?_
        refine Pl.qA_b (v := .bool true) (fun X => Pl.r_eql (Pl.e_t rfl) X) trivial rfl rfl rfl rfl rfl rfl ?_
        refine Pl.qA_go trivial rfl ?_
        refine Pl.qA_b (v := .bool true) (fun X => Pl.r_eql (Pl.e_t (by omega)) X) trivial rfl rfl rfl rfl rfl rfl ?_
        refine Pl.qA_go trivial rfl ?_
        refine Pl.qA_b (v := .bool true) (fun X => Pl.r_eql (Pl.e_t (by omega)) X) trivial rfl rfl rfl rfl rfl rfl ?_
        refine Pl.qA_b (v := .bool true) (fun X => r_eqlb true rfl X) trivial rfl rfl rfl rfl rfl rfl ?_
        refine Pl.qA_go trivial rfl ?_
        refine Pl.qA_b (v := .bool true) (fun X => Pl.r_eql (Pl.e_t (by omega)) X) trivial rfl rfl rfl rfl rfl rfl ?_
        refine Pl.qA_go trivial rfl ?_
        refine Pl.pA_end ?_
        repeat refine Pl.V_seq ?_
        exact Pl.post_ret rfl rfl ⟨rfl, Pl.Ex.trans hXb (Pl.Ex.trans hZ (Pl.Ex.trans hE1 (Pl.Ex.trans hE2 hE3)))⟩
      · rw [if_neg hke]
        repeat refine Pl.V_seq ?_
        refine Pl.V_region (by kernel_rfl) ?_
        refine Pl.qA_go trivial rfl ?_
        refine Pl.qA_sl (kl := .i64) (kh := .i64) (lo' := 0) (hi' := q) (s := 2) Tryd.underlying29 (by kernel_rfl) (.inl ⟨rfl, rfl⟩) (.inr ⟨_, _, rfl, rfl, rfl⟩) (by omega) (by omega) trivial rfl rfl rfl rfl rfl ?_
        rw [cutA_zero]
        refine Pl.pA_call rfl rfl rfl rfl rfl (fun u X => Pl.enters Tryd.func16 (by kernel_rfl) rfl u X) ?_
        refine Calls.mono (same_eq _ (Es.ex (Es.ex hRb hZ) (Pl.Ex.trans hE1 hE2)) (Es.head (Es.ex (Es.ex hMb hZ) (Pl.Ex.trans hE1 hE2)) (by omega)) rfl) ?_
        rintro e w3 ⟨rfl, hE3⟩
        have sz3 := Pl.Ex.size hE3
        refine ⟨_, rfl, trivial, ?_⟩
        refine Pl.qA_go trivial rfl ?_
        refine Pl.qA_ln Tryd.underlying22 trivial rfl rfl rfl rfl rfl ?_
        refine Pl.qA_b (v := .bool true) (fun X => Pl.r_eql (Pl.e_t rfl) X) trivial rfl rfl rfl rfl rfl rfl ?_
        refine Pl.qA_go trivial rfl ?_
        refine Pl.qA_b (v := .bool false) (fun X => Pl.r_eql (Pl.e_f (by omega)) X) trivial rfl rfl rfl rfl rfl rfl ?_
        refine Pl.qA_go trivial rfl ?_
        refine Pl.qA_b (v := .bool false) (fun X => Pl.r_eql (Pl.e_f (by omega)) X) trivial rfl rfl rfl rfl rfl rfl ?_
        refine Pl.qA_b (v := .bool true) (fun X => r_eqlb true rfl X) trivial rfl rfl rfl rfl rfl rfl ?_
        refine Pl.qA_go trivial rfl ?_
        refine Pl.qA_b (v := .bool false) (fun X => Pl.r_eql (Pl.e_f (by omega)) X) trivial rfl rfl rfl rfl rfl rfl ?_
        refine Pl.qA_go trivial rfl ?_
        refine Pl.qA_b (v := .bool true) (fun X => Pl.r_eql (Pl.e_t (by omega)) X) trivial rfl rfl rfl rfl rfl rfl ?_
        refine Pl.qA_go trivial rfl ?_
        refine Pl.pA_end ?_
        repeat refine Pl.V_seq ?_
        exact Pl.post_ret rfl rfl ⟨rfl, Pl.Ex.trans hXb (Pl.Ex.trans hZ (Pl.Ex.trans hE1 (Pl.Ex.trans hE2 hE3)))⟩
    · repeat refine Pl.V_seq ?_
      refine Pl.V_region (by kernel_rfl) ?_
      refine Pl.qA_go trivial rfl ?_
      refine Pl.qA_un (v := .bool false) trivial rfl rfl rfl rfl rfl (fun X => rfl) ?_
      refine Pl.qA_go trivial rfl ?_
      refine Pl.qA_ln Tryd.underlying22 trivial rfl rfl rfl rfl rfl ?_
      refine Pl.qA_go trivial rfl ?_
      refine Pl.qA_b (v := .bool false) (fun X => Pl.r_gtr (decide_eq_false (by omega)) X) trivial rfl rfl rfl rfl rfl rfl ?_
      refine Pl.qA_go trivial rfl ?_
      refine Pl.pA_end ?_
      repeat refine Pl.V_seq ?_
      refine Pl.V_false rfl ?_
      repeat refine Pl.V_seq ?_
      refine Pl.V_skip ?_
      have hlt2 : q < mm := by
        apply Nat.lt_of_le_of_ne hqm
        intro e
        subst e
        have := hm3 hlt
        omega
      repeat refine Pl.V_seq ?_
      refine Pl.V_region (by kernel_rfl) ?_
      refine Pl.qA_go trivial rfl ?_
      refine Pl.qA_b (v := .int .i64 (((q + 1) : Nat) : Int)) (fun X => Pl.r_add (Pl.a64 (a := q) (b := 1) rfl rfl (by omega)) X) trivial rfl rfl rfl rfl rfl rfl ?_
      refine Pl.qA_go trivial rfl ?_
      refine Pl.pA_end ?_
      repeat refine Pl.V_seq ?_
      refine Pl.V_endblock ?_
      refine Pl.V_again [(5, .bool true), (6, .slice Am M.length cm), (8, .bool true), (9, .int .i64 ((k : Nat) : Int)), (10, rv), (11, .int .i64 (((T.recs (M.take mm)).length : Nat) : Int)), (12, .int .i64 (((if k = (T.recs (M.take mm)).length then 0 else 301) : Nat) : Int)), (13, .int .i64 (((q + 1) : Nat) : Int))] (Pl.subl_cons rfl (Pl.subl_cons rfl (Pl.subl_cons rfl (Pl.subl_cons rfl (Pl.subl_cons rfl (Pl.subl_cons rfl (Pl.subl_cons rfl (Pl.subl_cons rfl Pl.subl_nil)))))))) (k' := kk - 1) (by omega) ⟨q + 1, by omega, by omega, Pl.Ex.trans hZ hE1, rfl⟩
  · repeat refine Pl.V_seq ?_
    refine Pl.V_region (by kernel_rfl) ?_
    refine Pl.qA_go trivial rfl ?_
    refine Pl.qA_ln Tryd.underlying29 trivial rfl rfl rfl rfl rfl ?_
    refine Pl.qA_b (v := .bool false) (fun X => Pl.r_lss (decide_eq_false (by omega)) X) trivial rfl rfl rfl rfl rfl rfl ?_
    refine Pl.pA_end ?_
    repeat refine Pl.V_seq ?_
    refine Pl.V_false rfl ?_
    repeat refine Pl.V_seq ?_
    refine Pl.V_exit ?_
    obtain rfl : q = mm := by omega
    repeat refine Pl.V_seq ?_
    refine Pl.V_region (by kernel_rfl) ?_
    refine Pl.qA_go trivial rfl ?_
    refine Pl.qA_sl (kl := .i64) (kh := .i64) (lo' := 0) (hi' := q) (s := 2) Tryd.underlying29 (by kernel_rfl) (.inl ⟨rfl, rfl⟩) (.inr ⟨_, _, rfl, rfl, rfl⟩) (by omega) (by omega) trivial rfl rfl rfl rfl rfl ?_
    rw [cutA_zero]
    refine Pl.pA_call rfl rfl rfl rfl rfl (fun u X => Pl.enters Tryd.func22 (by kernel_rfl) rfl u X) ?_
    refine Calls.mono (written_len _ (Es.head (Es.ex (Es.ex hMb hZ) (Pl.Ex.refl _)) (by omega)) (fun e he => hmay e (List.mem_of_mem_take he)) (hgb.ex (Pl.Ex.trans hZ (Pl.Ex.refl _))) (by have := recs_take_le M q; omega)) ?_
    rintro e w1 ⟨Ae, ce, rfl, hE1⟩
    have sz1 := Pl.Ex.size hE1
    refine ⟨_, rfl, trivial, ?_⟩
    refine Pl.qA_go trivial rfl ?_
    refine Pl.pA_end ?_
    by_cases hke : k = (T.recs (M.take q)).length
    · rw [if_pos hke]
      repeat refine Pl.V_seq ?_
      refine Pl.V_region (by kernel_rfl) ?_
      refine Pl.qA_go trivial rfl ?_
      refine Pl.qA_sl (kl := .i64) (kh := .i64) (lo' := 0) (hi' := q) (s := 2) Tryd.underlying29 (by kernel_rfl) (.inl ⟨rfl, rfl⟩) (.inr ⟨_, _, rfl, rfl, rfl⟩) (by omega) (by omega) trivial rfl rfl rfl rfl rfl ?_
      rw [cutA_zero]
      refine Pl.pA_call rfl rfl rfl rfl rfl (fun u X => Pl.enters Tryd.func16 (by kernel_rfl) rfl u X) ?_
      refine Calls.mono (same_eq _ (Es.ex (Es.ex hRb hZ) hE1) (Es.head (Es.ex (Es.ex hMb hZ) hE1) (by omega)) rfl) ?_
      rintro e w2 ⟨rfl, hE2⟩
      have sz2 := Pl.Ex.size hE2
      refine ⟨_, rfl, trivial, ?_⟩
      refine Pl.qA_go trivial rfl ?_
      refine Pl.qA_ln Tryd.underlying22 trivial rfl rfl rfl rfl rfl ?_
      refine Pl.qA_b (v := .bool true) (fun X => Pl.r_eql (Pl.e_t rfl) X) trivial rfl rfl rfl rfl rfl rfl ?_
      refine Pl.qA_go trivial rfl ?_
      refine Pl.qA_b (v := .bool true) (fun X => Pl.r_eql (Pl.e_t (by omega)) X) trivial rfl rfl rfl rfl rfl rfl ?_
      refine Pl.qA_go trivial rfl ?_
      refine Pl.qA_b (v := .bool true) (fun X => Pl.r_eql (Pl.e_t (by omega)) X) trivial rfl rfl rfl rfl rfl rfl ?_
      refine Pl.qA_b (v := .bool true) (fun X => r_eqlb true rfl X) trivial rfl rfl rfl rfl rfl rfl ?_
      refine Pl.qA_go trivial rfl ?_
      refine Pl.qA_b (v := .bool true) (fun X => Pl.r_eql (Pl.e_t (by omega)) X) trivial rfl rfl rfl rfl rfl rfl ?_
      refine Pl.qA_go trivial rfl ?_
      refine Pl.pA_end ?_
      repeat refine Pl.V_seq ?_
      exact Pl.post_ret rfl rfl ⟨rfl, Pl.Ex.trans hXb (Pl.Ex.trans hZ (Pl.Ex.trans hE1 hE2))⟩
    · rw [if_neg hke]
      repeat refine Pl.V_seq ?_
      refine Pl.V_region (by kernel_rfl) ?_
      refine Pl.qA_go trivial rfl ?_
      refine Pl.qA_sl (kl := .i64) (kh := .i64) (lo' := 0) (hi' := q) (s := 2) Tryd.underlying29 (by kernel_rfl) (.inl ⟨rfl, rfl⟩) (.inr ⟨_, _, rfl, rfl, rfl⟩) (by omega) (by omega) trivial rfl rfl rfl rfl rfl ?_
      rw [cutA_zero]
      refine Pl.pA_call rfl rfl rfl rfl rfl (fun u X => Pl.enters Tryd.func16 (by kernel_rfl) rfl u X) ?_
      refine Calls.mono (same_eq _ (Es.ex (Es.ex hRb hZ) hE1) (Es.head (Es.ex (Es.ex hMb hZ) hE1) (by omega)) rfl) ?_
      rintro e w2 ⟨rfl, hE2⟩
      have sz2 := Pl.Ex.size hE2
      refine ⟨_, rfl, trivial, ?_⟩
      refine Pl.qA_go trivial rfl ?_
      refine Pl.qA_ln Tryd.underlying22 trivial rfl rfl rfl rfl rfl ?_
      refine Pl.qA_b (v := .bool true) (fun X => Pl.r_eql (Pl.e_t rfl) X) trivial rfl rfl rfl rfl rfl rfl ?_
      refine Pl.qA_go trivial rfl ?_
      refine Pl.qA_b (v := .bool false) (fun X => Pl.r_eql (Pl.e_f (by omega)) X) trivial rfl rfl rfl rfl rfl rfl ?_
      refine Pl.qA_go trivial rfl ?_
      refine Pl.qA_b (v := .bool false) (fun X => Pl.r_eql (Pl.e_f (by omega)) X) trivial rfl rfl rfl rfl rfl rfl ?_
      refine Pl.qA_b (v := .bool true) (fun X => r_eqlb true rfl X) trivial rfl rfl rfl rfl rfl rfl ?_
      refine Pl.qA_go trivial rfl ?_
      refine Pl.qA_b (v := .bool false) (fun X => Pl.r_eql (Pl.e_f (by omega)) X) trivial rfl rfl rfl rfl rfl rfl ?_
      refine Pl.qA_go trivial rfl ?_
      refine Pl.qA_b (v := .bool true) (fun X => Pl.r_eql (Pl.e_t (by omega)) X) trivial rfl rfl rfl rfl rfl rfl ?_
      refine Pl.qA_go trivial rfl ?_
      refine Pl.pA_end ?_
      repeat refine Pl.V_seq ?_
      exact Pl.post_ret rfl rfl ⟨rfl, Pl.Ex.trans hXb (Pl.Ex.trans hZ (Pl.Ex.trans hE1 hE2))⟩
end Go.Proofs.YtmioaeaobefphaaDoor
/- StoreFlipped, walked. -/
namespace Go.Proofs.YtmioaeaobefphaaDoor
open Go.RowKit 
set_option linter.unusedVariables false
set_option linter.unusedSimpArgs false
set_option maxRecDepth 100000
set_option maxHeartbeats 4000000
/-- One byte of a row of the call's own. -/
theorem Gy.own {w : World} {base : Nat} {v : Value} {bs : T.Byt} (h : Gy w base v bs) {p : Nat} (hp : p < bs.length) : ∃ g c, v = .slice (some ⟨g, 0, none⟩) bs.length c ∧ base ≤ g ∧ g < w.heap.size ∧ w.cell? ⟨g, p, none⟩ = some (.int .u8 ((bs[p].toNat : Nat) : Int)) ∧ w.frozen? ⟨g, p, none⟩ = false ∧
    ∀ x : UInt8, Gy (w.setCell ⟨g, p, none⟩ (.int .u8 ((x.toNat : Nat) : Int))) base v (bs.set p x) := by
  rcases h.2 with ⟨_, h0⟩ | ⟨g, cap, cur, rfl, hb, hgg, hnc, hcm, hcs, htake, hok⟩
  · omega
  · have hlt := (Array.getElem?_eq_some_iff.1 hgg).1
    have hm2 : cap ≤ 9223372036854775807 := hcm
    have hsl := Pl.Gr.sl h (by omega)
    obtain ⟨ad, e, hc⟩ := Pl.Sl.at hsl (cB_get hp)
    cases e
    rw [Addr.add_mid, Nat.zero_add] at hc
    refine ⟨g, cap, rfl, hb, hlt, hc, by simp [World.frozen?, hgg], fun x => ?_⟩
    have hs := heap_setCell_same w g p _ _ (.int .u8 ((x.toNat : Nat) : Int)) hgg
    have e1 : Gy (w.setCell ⟨g, p, none⟩ (.int .u8 ((x.toNat : Nat) : Int))) base (.slice (some ⟨g, 0, none⟩) (bs.set p x).length cap) (bs.set p x) := by
      refine ⟨by rw [cB_len, Nat.mul_one], .inr ⟨g, cap, cur.setIfInBounds p (.int .u8 ((x.toNat : Nat) : Int)), rfl, hb, hs, by rw [List.length_set]; exact hnc, hcm, by rw [Array.size_setIfInBounds]; exact hcs, ?_, fun _ _ => trivial⟩⟩
      rw [List.length_set, Array.toList_setIfInBounds, List.take_set, htake]
      simp [cB, List.map_set]
    rwa [List.length_set] at e1
theorem T.rd_flip (M : List T.Ent) (hM : ∀ e ∈ M, T.May e) {k : Nat} (hk : k < M.length) {q : Nat} (h4 : 4 ≤ q) (hq : q < (T.recd M[k]).length) {x : UInt8} (hpl : (T.recs (M.take k)).length + q < (T.recs M).length) (hx : x ≠ (T.recs M)[(T.recs (M.take k)).length + q]) :
    T.rd ((T.recs M).set ((T.recs (M.take k)).length + q) x) = (M.take k, (T.recs (M.take k)).length, 300) := by
  have hs : T.recs M = T.recs (M.take k) ++ (T.recd M[k] ++ T.recs (M.drop (k + 1))) := by
    rw [← T.recs_one M[k], ← T.recs_append, ← T.recs_append]
    congr 1
    rw [List.singleton_append, ← List.drop_eq_getElem_cons hk, List.take_append_drop]
  have hmk : T.May M[k] := hM _ (List.getElem_mem hk)
  have hl2 : q < (T.recd M[k] ++ T.recs (M.drop (k + 1))).length := by rw [List.length_append]; omega
  have hx2 : x ≠ (T.recd M[k] ++ T.recs (M.drop (k + 1)))[q] := by
    intro e
    apply hx
    rw [e]
    have h6 : (T.recs M)[(T.recs (M.take k)).length + q]? = (T.recd M[k] ++ T.recs (M.drop (k + 1)))[q]? := by
      rw [hs, List.getElem?_append_right (by omega), Nat.add_sub_cancel_left]
    rw [List.getElem?_eq_getElem hpl, List.getElem?_eq_getElem hl2] at h6
    exact (Option.some.inj h6).symm
  have h1 := T.one_flip M[k] hmk (T.recs (M.drop (k + 1))) q h4 hq x hl2 hx2
  rw [hs, List.set_append_right _ _ (by omega), Nat.add_sub_cancel_left, T.rd_recs _ _ (fun e he => hM e (List.mem_of_mem_take he)), T.rd_sum h1]
  simp
theorem xor_ne {a b : UInt8} (h : b ≠ 0) : a ^^^ b ≠ a := fun e => h (by
  have : a ^^^ (a ^^^ b) = a ^^^ a := by rw [e]
  rwa [← UInt8.xor_assoc, UInt8.xor_self, UInt8.zero_xor] at this)
theorem written_head (w : World) {A : Option Addr} {n c lo k : Nat} {M : List T.Ent} (hM : Es w lo (.slice A n c) M) (hk : k ≤ M.length) (hmay : ∀ e ∈ M, T.May e) (hg : Gl w) (hb : (T.recs M).length ≤ 10000000) :
    Calls Tryd.prog 22 #[.slice A k c] w fun e w' => ∃ A c, e = .returned (.tuple #[.slice A (T.recs (M.take k)).length c, .bool true]) ∧ Pl.Ex w w' :=
  written_len w (Es.head hM hk) (fun e he => hmay e (List.mem_of_mem_take he)) hg (by have := recs_take_le M k; omega)
theorem StoreFlipped_walk (w : World) {v : Value} {lo : Nat} {l : List T.Ent} (hl : Es w lo v l) (p0 p1 : Nat) (hp0 : p0 < 65536) (hp1 : p1 < 65536) (y : Nat) (hy : y < 256) (hg : Gl w) :
    Calls Tryd.prog 6 #[v, .agg #[.int .u16 ((p0 : Nat) : Int), .int .u16 ((p1 : Nat) : Int)], .int .u8 ((y : Nat) : Int)] w fun e w' => e = .returned (.bool true) ∧ Pl.Ex w w' := by
  obtain ⟨Al, cl, rfl, hnl0, hcl⟩ := hl.sh
  refine Pl.calls_by (n := 133) (vs := [.slice Al l.length cl, .agg #[.int .u16 ((p0 : Nat) : Int), .int .u16 ((p1 : Nat) : Int)], .int .u8 ((y : Nat) : Int)]) Tryd.func6 rfl (by kernel_rfl) (by simp) ?_
  repeat refine Pl.V_seq ?_
  refine Pl.V_region (by kernel_rfl) ?_
  refine Pl.qA_bx (cs := [.int .u16 ((p0 : Nat) : Int), .int .u16 ((p1 : Nat) : Int)]) rfl rfl rfl rfl rfl rfl (fun Y hY => trivial) ?_
  intro N1 w1 hE1 hN_N1 k_N1_0
  have z_N1 := Pl.Cb.lt k_N1_0
  have sz1 := Pl.Ex.size hE1
  refine Pl.qA_go trivial rfl ?_
  refine Pl.pA_end ?_
  repeat refine Pl.V_seq ?_
  refine Pl.V_region (by kernel_rfl) ?_
  refine Pl.pA_call rfl rfl rfl rfl rfl (fun u X => Pl.enters Tryd.func11 (by kernel_rfl) rfl u X) ?_
  refine Calls.mono (head_calls _ (hg.ex hE1)) ?_
  rintro e w2 ⟨rfl, hE2⟩
  have sz2 := Pl.Ex.size hE2
  refine ⟨_, rfl, trivial, ?_⟩
  refine Pl.qA_go trivial rfl ?_
  refine Pl.pA_end ?_
  repeat refine Pl.V_seq ?_
  refine Pl.V_region (by kernel_rfl) ?_
  refine Pl.qA_go trivial rfl ?_
  refine Pl.pA_call rfl rfl rfl rfl rfl (fun u X => Pl.enters Tryd.func21 (by kernel_rfl) rfl u X) ?_
  refine Calls.mono (made_calls _ (Es.ex hl (Pl.Ex.trans hE1 hE2)) 12 (by omega)) ?_
  rintro e w3 ⟨vm, rfl, hM, hE3⟩
  have hmay := T.made_may l 12
  have hmr := T.made_recs l 12
  have hml := T.made_len l 12
  generalize T.made l 12 = M at *
  obtain ⟨Am, cm, rfl, hnm, hcm⟩ := Es.sh hM
  have sz3 := Pl.Ex.size hE3
  refine ⟨_, rfl, trivial, ?_⟩
  refine Pl.qA_go trivial rfl ?_
  refine Pl.pA_end ?_
  by_cases hz : M.length = 0
  · repeat refine Pl.V_seq ?_
    refine Pl.V_region (by kernel_rfl) ?_
    refine Pl.qA_go trivial rfl ?_
    refine Pl.qA_ln Tryd.underlying29 trivial rfl rfl rfl rfl rfl ?_
    refine Pl.qA_b (v := .bool true) (fun X => Pl.r_eql (Pl.e_t (by omega)) X) trivial rfl rfl rfl rfl rfl rfl ?_
    refine Pl.qA_go trivial rfl ?_
    refine Pl.pA_end ?_
    repeat refine Pl.V_seq ?_
    refine Pl.V_true rfl ?_
    repeat refine Pl.V_seq ?_
    refine Pl.V_region (by kernel_rfl) ?_
    refine Pl.qA_go trivial rfl ?_
    refine Pl.pA_end ?_
    repeat refine Pl.V_seq ?_
    exact Pl.post_ret rfl rfl ⟨rfl, (Pl.Ex.trans hE1 (Pl.Ex.trans hE2 hE3))⟩
  · by_cases hy0 : y = 0
    · repeat refine Pl.V_seq ?_
      refine Pl.V_region (by kernel_rfl) ?_
      refine Pl.qA_go trivial rfl ?_
      refine Pl.qA_ln Tryd.underlying29 trivial rfl rfl rfl rfl rfl ?_
      refine Pl.qA_b (v := .bool false) (fun X => Pl.r_eql (Pl.e_f (by omega)) X) trivial rfl rfl rfl rfl rfl rfl ?_
      refine Pl.qA_go trivial rfl ?_
      refine Pl.qA_b (v := .bool true) (fun X => Pl.r_eql (Pl.e_t (by omega)) X) trivial rfl rfl rfl rfl rfl rfl ?_
      refine Pl.qA_go trivial rfl ?_
      refine Pl.pA_end ?_
      repeat refine Pl.V_seq ?_
      refine Pl.V_true rfl ?_
      repeat refine Pl.V_seq ?_
      refine Pl.V_region (by kernel_rfl) ?_
      refine Pl.qA_go trivial rfl ?_
      refine Pl.pA_end ?_
      repeat refine Pl.V_seq ?_
      exact Pl.post_ret rfl rfl ⟨rfl, (Pl.Ex.trans hE1 (Pl.Ex.trans hE2 hE3))⟩
    · repeat refine Pl.V_seq ?_
      refine Pl.V_region (by kernel_rfl) ?_
      refine Pl.qA_go trivial rfl ?_
      refine Pl.qA_ln Tryd.underlying29 trivial rfl rfl rfl rfl rfl ?_
      refine Pl.qA_b (v := .bool false) (fun X => Pl.r_eql (Pl.e_f (by omega)) X) trivial rfl rfl rfl rfl rfl rfl ?_
      refine Pl.qA_go trivial rfl ?_
      refine Pl.qA_b (v := .bool false) (fun X => Pl.r_eql (Pl.e_f (by omega)) X) trivial rfl rfl rfl rfl rfl rfl ?_
      refine Pl.qA_go trivial rfl ?_
      refine Pl.pA_end ?_
      repeat refine Pl.V_seq ?_
      refine Pl.V_false rfl ?_
      repeat refine Pl.V_seq ?_
      refine Pl.V_skip ?_
      repeat refine Pl.V_seq ?_
      refine Pl.V_region (by kernel_rfl) ?_
      refine Pl.qA_ia (s := 1) (j := 0) Tryd.underlying43 (by kernel_rfl) rfl (by omega) trivial rfl rfl rfl rfl rfl rfl ?_
      refine Pl.qA_lcw (v := .int .u16 ((p0 : Nat) : Int)) Tryd.underlying41 rfl (by rw [Pl.add0]; exact Pl.Cb.at (j := 0) (Pl.Cb.ex k_N1_0 (Pl.Ex.trans hE2 hE3)) rfl) trivial rfl rfl rfl rfl rfl ?_
      refine Pl.qA_cv (c := ((p0 : Nat) : Int)) Tryd.underlying3 (by kernel_rfl) (Pl.c_id (a := p0) rfl (Pl.w64 (by omega) (by omega))) trivial rfl rfl rfl rfl rfl ?_
      refine Pl.qA_go trivial rfl ?_
      refine Pl.qA_ln Tryd.underlying29 trivial rfl rfl rfl rfl rfl ?_
      refine Pl.qA_b (v := .int .i64 (((p0 % M.length) : Nat) : Int)) (fun X => Pl.r_rem (by omega) (tm_nat p0 M.length) X) trivial rfl rfl rfl rfl rfl rfl ?_
      refine Pl.qA_go trivial rfl ?_
      refine Pl.pA_end ?_
      have hk : (p0 % M.length) < M.length := Nat.mod_lt _ (by omega)
      generalize (p0 % M.length) = k at *
      have hrs := recs_snoc M hk
      have hrl := congrArg List.length hrs
      rw [List.length_append] at hrl
      have h9 := T.recd_len M[k]
      have hu := recs_take_le M (k + 1)
      repeat refine Pl.V_seq ?_
      refine Pl.V_region (by kernel_rfl) ?_
      refine Pl.qA_go trivial rfl ?_
      refine Pl.qA_sl (kl := .i64) (kh := .i64) (lo' := 0) (hi' := k) (s := 2) Tryd.underlying29 (by kernel_rfl) (.inl ⟨rfl, rfl⟩) (.inr ⟨_, _, rfl, rfl, rfl⟩) (by omega) (by omega) trivial rfl rfl rfl rfl rfl ?_
      rw [cutA_zero]
      refine Pl.pA_call rfl rfl rfl rfl rfl (fun u X => Pl.enters Tryd.func22 (by kernel_rfl) rfl u X) ?_
      refine Calls.mono (written_head _ (Es.ex hM (Pl.Ex.refl _)) (k := k) (by omega) hmay (hg.ex (Pl.Ex.trans hE1 (Pl.Ex.trans hE2 hE3))) (by omega)) ?_
      rintro e w4 ⟨Ah, ch, rfl, hE4⟩
      have sz4 := Pl.Ex.size hE4
      refine ⟨_, rfl, trivial, ?_⟩
      refine Pl.qA_go trivial rfl ?_
      refine Pl.pA_end ?_
      repeat refine Pl.V_seq ?_
      refine Pl.V_region (by kernel_rfl) ?_
      refine Pl.qA_go trivial rfl ?_
      refine Pl.qA_b (v := .int .i64 (((k + 1) : Nat) : Int)) (fun X => Pl.r_add (Pl.a64 (a := k) (b := 1) rfl rfl (by omega)) X) trivial rfl rfl rfl rfl rfl rfl ?_
      refine Pl.qA_sl (kl := .i64) (kh := .i64) (lo' := 0) (hi' := ((k + 1))) (s := 2) Tryd.underlying29 (by kernel_rfl) (.inl ⟨rfl, rfl⟩) (.inr ⟨_, _, rfl, rfl, rfl⟩) (by omega) (by omega) trivial rfl rfl rfl rfl rfl ?_
      rw [cutA_zero]
      refine Pl.pA_call rfl rfl rfl rfl rfl (fun u X => Pl.enters Tryd.func22 (by kernel_rfl) rfl u X) ?_
      refine Calls.mono (written_head _ (Es.ex hM hE4) (k := (k + 1)) (by omega) hmay (hg.ex (Pl.Ex.trans hE1 (Pl.Ex.trans hE2 (Pl.Ex.trans hE3 hE4)))) (by omega)) ?_
      rintro e w5 ⟨Au, cu, rfl, hE5⟩
      have sz5 := Pl.Ex.size hE5
      refine ⟨_, rfl, trivial, ?_⟩
      refine Pl.qA_go trivial rfl ?_
      refine Pl.pA_end ?_
      repeat refine Pl.V_seq ?_
      refine Pl.V_region (by kernel_rfl) ?_
      refine Pl.qA_go trivial rfl ?_
      refine Pl.pA_call rfl rfl rfl rfl rfl (fun u X => Pl.enters Tryd.func22 (by kernel_rfl) rfl u X) ?_
      refine Calls.mono (written_calls _ (Es.ex hM (Pl.Ex.trans hE4 hE5)) hmay (hg.ex (Pl.Ex.trans hE1 (Pl.Ex.trans hE2 (Pl.Ex.trans hE3 (Pl.Ex.trans hE4 hE5))))) (by omega)) ?_
      rintro e w6 ⟨vl, rfl, hG, hE6⟩
      obtain ⟨A5, c5, rfl, hc5⟩ := Pl.Gr.shp hG
      have hL := Gy.by hG (by omega)
      have sz6 := Pl.Ex.size hE6
      refine ⟨_, rfl, trivial, ?_⟩
      refine Pl.qA_go trivial rfl ?_
      refine Pl.pA_end ?_
      repeat refine Pl.V_seq ?_
      refine Pl.V_region (by kernel_rfl) ?_
      refine Pl.qA_go trivial rfl ?_
      refine Pl.qA_un (v := .bool false) trivial rfl rfl rfl rfl rfl (fun X => rfl) ?_
      refine Pl.qA_go trivial rfl ?_
      refine Pl.qA_un (v := .bool false) trivial rfl rfl rfl rfl rfl (fun X => rfl) ?_
      refine Pl.qA_go trivial rfl ?_
      refine Pl.qA_un (v := .bool false) trivial rfl rfl rfl rfl rfl (fun X => rfl) ?_
      refine Pl.qA_go trivial rfl ?_
      refine Pl.qA_ln Tryd.underlying22 trivial rfl rfl rfl rfl rfl ?_
      refine Pl.qA_go trivial rfl ?_
      refine Pl.qA_ln Tryd.underlying22 trivial rfl rfl rfl rfl rfl ?_
      refine Pl.qA_b (v := .int .i64 ((((T.recs (M.take k)).length + 9) : Nat) : Int)) (fun X => Pl.r_add (Pl.a64 (a := (T.recs (M.take k)).length) (b := 9) rfl rfl (by omega)) X) trivial rfl rfl rfl rfl rfl rfl ?_
      refine Pl.qA_b (v := .bool false) (fun X => Pl.r_lss (decide_eq_false (by omega)) X) trivial rfl rfl rfl rfl rfl rfl ?_
      refine Pl.qA_go trivial rfl ?_
      refine Pl.qA_ln Tryd.underlying22 trivial rfl rfl rfl rfl rfl ?_
      refine Pl.qA_go trivial rfl ?_
      refine Pl.qA_ln Tryd.underlying22 trivial rfl rfl rfl rfl rfl ?_
      refine Pl.qA_b (v := .bool false) (fun X => Pl.r_lss (decide_eq_false (by omega)) X) trivial rfl rfl rfl rfl rfl rfl ?_
      refine Pl.qA_go trivial rfl ?_
      refine Pl.pA_end ?_
      repeat refine Pl.V_seq ?_
      refine Pl.V_false rfl ?_
      repeat refine Pl.V_seq ?_
      refine Pl.V_skip ?_
      repeat refine Pl.V_seq ?_
      refine Pl.V_region (by kernel_rfl) ?_
      refine Pl.qA_go trivial rfl ?_
      refine Pl.qA_ln Tryd.underlying22 trivial rfl rfl rfl rfl rfl ?_
      refine Pl.qA_b (v := .int .i64 ((((T.recs (M.take k)).length + 4) : Nat) : Int)) (fun X => Pl.r_add (Pl.a64 (a := (T.recs (M.take k)).length) (b := 4) rfl rfl (by omega)) X) trivial rfl rfl rfl rfl rfl rfl ?_
      refine Pl.qA_ia (s := 1) (j := 1) Tryd.underlying43 (by kernel_rfl) rfl (by omega) trivial rfl rfl rfl rfl rfl rfl ?_
      refine Pl.qA_lcw (v := .int .u16 ((p1 : Nat) : Int)) Tryd.underlying41 rfl (by rw [Pl.add0]; exact Pl.Cb.at (j := 1) (Pl.Cb.ex k_N1_0 (Pl.Ex.trans hE2 (Pl.Ex.trans hE3 (Pl.Ex.trans hE4 (Pl.Ex.trans hE5 hE6))))) rfl) trivial rfl rfl rfl rfl rfl ?_
      refine Pl.qA_cv (c := ((p1 : Nat) : Int)) Tryd.underlying3 (by kernel_rfl) (Pl.c_id (a := p1) rfl (Pl.w64 (by omega) (by omega))) trivial rfl rfl rfl rfl rfl ?_
      refine Pl.qA_go trivial rfl ?_
      refine Pl.qA_ln Tryd.underlying22 trivial rfl rfl rfl rfl rfl ?_
      refine Pl.qA_go trivial rfl ?_
      refine Pl.qA_ln Tryd.underlying22 trivial rfl rfl rfl rfl rfl ?_
      refine Pl.qA_b (v := .int .i64 ((((T.recs (M.take (k + 1))).length - (T.recs (M.take k)).length) : Nat) : Int)) (fun X => Pl.r_sub (Pl.s64 (a := (T.recs (M.take (k + 1))).length) (b := (T.recs (M.take k)).length) rfl rfl (by omega) (by omega)) X) trivial rfl rfl rfl rfl rfl rfl ?_
      refine Pl.qA_b (v := .int .i64 (((((T.recs (M.take (k + 1))).length - (T.recs (M.take k)).length) - 4) : Nat) : Int)) (fun X => Pl.r_sub (Pl.s64 (a := ((T.recs (M.take (k + 1))).length - (T.recs (M.take k)).length)) (b := 4) rfl rfl (by omega) (by omega)) X) trivial rfl rfl rfl rfl rfl rfl ?_
      refine Pl.qA_b (v := .int .i64 (((p1 % (((T.recs (M.take (k + 1))).length - (T.recs (M.take k)).length) - 4)) : Nat) : Int)) (fun X => Pl.r_rem (by omega) (tm_nat p1 (((T.recs (M.take (k + 1))).length - (T.recs (M.take k)).length) - 4)) X) trivial rfl rfl rfl rfl rfl rfl ?_
      have hqm := Nat.mod_lt p1 (show 0 < ((T.recs (M.take (k + 1))).length - (T.recs (M.take k)).length) - 4 by omega)
      generalize hqd : (p1 % (((T.recs (M.take (k + 1))).length - (T.recs (M.take k)).length) - 4)) = q0 at *
      refine Pl.qA_b (v := .int .i64 (((T.recs (M.take k)).length + (4 + q0) : Nat) : Int)) (fun X => Pl.r_add (by rw [Pl.w64 (by omega) (by omega)]; omega) X) trivial rfl rfl rfl rfl rfl rfl ?_
      refine Pl.qA_go trivial rfl ?_
      refine Pl.pA_end ?_
      have hpl : ((T.recs (M.take k)).length + (4 + q0)) < (T.recs M).length := by omega
      repeat refine Pl.V_seq ?_
      refine Pl.V_region (by kernel_rfl) ?_
      refine Pl.qA_bs (e := 5) (n := 0) [] rfl rfl rfl rfl (by kernel_rfl) (fun Y hY => trivial) ?_
      intro N2 w7 hE7 hN_N2 k_N2_0
      have z_N2 := Pl.Cb.lt k_N2_0
      have sz7 := Pl.Ex.size hE7
      refine Pl.qA_go trivial rfl ?_
      refine Pl.qA_gr (bytes := 1) (z := .int .u8 0) (tx := 22) (news := cB ((T.recs M))) (Gy.nilCb (base := w6.heap.size) k_N2_0 (by omega)) (By.src (By.ex hL hE7)) Tryd.underlying22 (by kernel_rfl) rfl (fun _ _ => trivial) (fun _ _ => trivial) (by first | omega | (simp; omega)) (by decide) (Pl.Ex.size hE7) rfl rfl rfl rfl rfl rfl (fun _ _ => trivial) ?_
      intro v3 w8 g3 hg3
      have hE8 := Pl.Ex.grown hE7 hg3 (fun k hk => (Pl.Gr.lies (Gy.nilCb (base := w6.heap.size) k_N2_0 (by omega)) k hk).1)
      replace g3 := Gy.app g3
      rw [List.nil_append] at g3
      obtain ⟨g8, c8, rfl, hg8b, hg8l, hcell, hfz, hset⟩ := Gy.own g3 hpl
      refine Pl.qA_go trivial rfl ?_
      refine Pl.pA_end ?_
      have hxy : ((T.recs M)[((T.recs (M.take k)).length + (4 + q0))] ^^^ UInt8.ofNat y).toNat = (T.recs M)[((T.recs (M.take k)).length + (4 + q0))].toNat ^^^ y := by rw [UInt8.toNat_xor, UInt8.toNat_ofNat']; congr 1; exact Nat.mod_eq_of_lt hy
      have hx8 := (T.recs M)[((T.recs (M.take k)).length + (4 + q0))].toNat_lt
      have hne : (T.recs M)[((T.recs (M.take k)).length + (4 + q0))] ^^^ UInt8.ofNat y ≠ (T.recs M)[((T.recs (M.take k)).length + (4 + q0))] := xor_ne (fun e => hy0 (by have := congrArg UInt8.toNat e; rw [UInt8.toNat_ofNat'] at this; have e2 : y % 2 ^ 8 = 0 := this; omega))
      have hrd := T.rd_flip M hmay hk (q := 4 + q0) (by omega) (by omega) hpl hne
      replace hset := hset ((T.recs M)[((T.recs (M.take k)).length + (4 + q0))] ^^^ UInt8.ofNat y)
      rw [hxy] at hset
      generalize (T.recs M)[((T.recs (M.take k)).length + (4 + q0))].toNat = x0 at *
      generalize (T.recs M)[((T.recs (M.take k)).length + (4 + q0))] ^^^ UInt8.ofNat y = xb at *
      repeat refine Pl.V_seq ?_
      refine Pl.V_region (by kernel_rfl) ?_
      refine Pl.qA_go trivial rfl ?_
      refine Pl.qA_ix (s := 1) (j := (((T.recs (M.take k)).length + (4 + q0)))) Tryd.underlying22 (by kernel_rfl) rfl (by omega) trivial rfl rfl rfl rfl rfl rfl ?_
      refine Pl.qA_lcw (v := .int .u8 ((x0 : Nat) : Int)) Tryd.underlying5 rfl (by rw [Pl.add0]; exact hcell) trivial rfl rfl rfl rfl rfl ?_
      refine Pl.qA_go trivial rfl ?_
      refine Pl.qA_b (v := .int .u8 (((x0 ^^^ y) : Nat) : Int)) (fun X => Pl.r_xor8 (a := x0) (b := y) (by omega) (by omega) rfl rfl rfl X) trivial rfl rfl rfl rfl rfl rfl ?_
      refine Pl.qA_ix (s := 1) (j := (((T.recs (M.take k)).length + (4 + q0)))) Tryd.underlying22 (by kernel_rfl) rfl (by omega) trivial rfl rfl rfl rfl rfl rfl ?_
      refine Pl.qA_store rfl rfl rfl rfl rfl rfl (Pl.run_st (by kernel_rfl) rfl rfl (by rw [Pl.add0]; exact hcell) (by rw [Pl.add0]; exact hfz)) trivial ?_
      rw [Pl.add0]
      have hXs := Pl.Xs.set w8 g8 ((T.recs (M.take k)).length + (4 + q0)) (.int .u8 ((x0 ^^^ y : Nat) : Int))
      generalize w8.setCell ⟨g8, ((T.recs (M.take k)).length + (4 + q0)), none⟩ (.int .u8 ((x0 ^^^ y : Nat) : Int)) = w9 at *
      have hE9 := Pl.Ex.xs hE8 hXs (by omega)
      have sz9 := Pl.Ex.size hE9
      refine Pl.pA_end ?_
      repeat refine Pl.V_seq ?_
      refine Pl.V_region (by kernel_rfl) ?_
      refine Pl.qA_go trivial rfl ?_
      refine Pl.pA_call rfl rfl rfl rfl rfl (fun u X => Pl.enters Tryd.func14 (by kernel_rfl) rfl u X) ?_
      refine Calls.mono (read_calls _ (By.ex (Gy.by hset (by rw [List.length_set]; omega)) (Pl.Ex.refl _)) (hg.ex (Pl.Ex.trans hE1 (Pl.Ex.trans hE2 (Pl.Ex.trans hE3 (Pl.Ex.trans hE4 (Pl.Ex.trans hE5 (Pl.Ex.trans hE6 hE9))))))) (by rw [List.length_set]; omega)) ?_
      rintro e w10 ⟨rv, rfl, hR, hE10⟩
      rw [hrd] at hR ⊢
      have sz10 := Pl.Ex.size hE10
      refine ⟨_, rfl, trivial, ?_⟩
      refine Pl.qA_go trivial rfl ?_
      refine Pl.pA_end ?_
      repeat refine Pl.V_seq ?_
      refine Pl.V_region (by kernel_rfl) ?_
      refine Pl.qA_go trivial rfl ?_
      refine Pl.qA_b (v := .bool true) (fun X => Pl.r_eql (Pl.e_t rfl) X) trivial rfl rfl rfl rfl rfl rfl ?_
      refine Pl.qA_go trivial rfl ?_
      refine Pl.qA_ln Tryd.underlying22 trivial rfl rfl rfl rfl rfl ?_
      refine Pl.qA_b (v := .bool true) (fun X => Pl.r_eql (Pl.e_t rfl) X) trivial rfl rfl rfl rfl rfl rfl ?_
      refine Pl.qA_go trivial rfl ?_
      refine Pl.qA_sl (kl := .i64) (kh := .i64) (lo' := 0) (hi' := k) (s := 2) Tryd.underlying29 (by kernel_rfl) (.inl ⟨rfl, rfl⟩) (.inr ⟨_, _, rfl, rfl, rfl⟩) (by omega) (by omega) trivial rfl rfl rfl rfl rfl ?_
      rw [cutA_zero]
      refine Pl.pA_call rfl rfl rfl rfl rfl (fun u X => Pl.enters Tryd.func16 (by kernel_rfl) rfl u X) ?_
      refine Calls.mono (same_eq _ (Es.ex hR (Pl.Ex.refl _)) (Es.head (Es.ex hM (Pl.Ex.trans hE4 (Pl.Ex.trans hE5 (Pl.Ex.trans hE6 (Pl.Ex.trans hE9 hE10))))) (k := k) (by omega)) rfl) ?_
      rintro e w11 ⟨rfl, hE11⟩
      have sz11 := Pl.Ex.size hE11
      refine ⟨_, rfl, trivial, ?_⟩
      refine Pl.qA_go trivial rfl ?_
      refine Pl.pA_end ?_
      repeat refine Pl.V_seq ?_
      exact Pl.post_ret rfl rfl ⟨rfl, (Pl.Ex.trans hE1 (Pl.Ex.trans hE2 (Pl.Ex.trans hE3 (Pl.Ex.trans hE4 (Pl.Ex.trans hE5 (Pl.Ex.trans hE6 (Pl.Ex.trans hE9 (Pl.Ex.trans hE10 hE11))))))))⟩
end Go.Proofs.YtmioaeaobefphaaDoor
/- Two numbers among the arguments. -/
namespace Go.Proofs.YtmioaeaobefphaaDoor
open Go.ChangeShapes Go.WideShapes Go.ChangeAt Go.RowKit
set_option linter.unusedVariables false
set_option linter.unusedSimpArgs false
set_option maxRecDepth 100000
theorem okWide_arr' {P : Program} {k e : TypeId} {n : Nat} {W : World} (hu : P.underlying k = some (.array n e)) {r : Reach} {b0 : Nat} {v : Value} (h : Value.okWide P W r b0 k v) : ∃ xs : Array Value, v = .agg xs ∧ xs.size = P.cellsOf k := by
  simp only [Value.okWide, hu] at h
  obtain ⟨cs, h1, h2, _⟩ := h
  exact ⟨cs, h1, h2⟩
theorem trod_array2 {H : Type} {enc : TypeId × Value → H} {P : Program} {w : World} {base : Nat} {spare : Nat → Bool} {held : Bool} {t e : TypeId} {fuel : Nat} {c0 c1 : Value} {x : DataW H × List MemPlace} (ht : P.underlying t = some (.array 2 e)) (hce : P.cellsOf e = 1)
    (h : DataW.trod enc P w base spare held fuel t [c0, c1] = some x) :
    ∃ y0 y1 n, DataW.trod enc P w base spare held n e [c0] = some y0 ∧ DataW.trod enc P w base spare held n e [c1] = some y1 := by
  cases fuel with
  | zero => simp [DataW.trod] at h
  | succ n =>
    unfold DataW.trod at h
    rw [ht] at h
    have r2 : List.range 2 = [0, 1] := rfl
    simp [r2, hce] at h
    obtain ⟨_, h⟩ := h
    cases h0 : DataW.trod enc P w base spare held n e [c0] with
    | none => simp [h0] at h
    | some y0 =>
      cases h1 : DataW.trod enc P w base spare held n e [c1] with
      | none => simp [h0, h1] at h
      | some y1 => exact ⟨y0, y1, n, h0, h1⟩
theorem open_two16 {H : Type} {enc : TypeId × Value → H} {W : World} {base : Nat} {v : Value} {d : DataW H} {ps : List MemPlace} (hval : Value.okWide Tryd.prog W .any base 43 v) (h : DataW.Trod enc Tryd.prog W 0 (fun _ => true) true 43 v d ps) :
    ∃ n0 n1 : Nat, v = .agg #[.int .u16 (n0 : Nat), .int .u16 (n1 : Nat)] ∧ n0 < 65536 ∧ n1 < 65536 := by
  obtain ⟨cs, rfl, hsz⟩ := okWide_arr' Tryd.underlying43 hval
  rw [show Tryd.prog.cellsOf 43 = 2 by kernel_rfl] at hsz
  obtain ⟨l⟩ := cs
  match l, hsz with
  | [c0, c1], _ =>
    obtain ⟨fuel, hf⟩ := h
    obtain ⟨y0, y1, n, h0, h1⟩ := trod_array2 Tryd.underlying43 (show Tryd.prog.cellsOf 41 = 1 by kernel_rfl) hf
    obtain ⟨a0, e0, _, f0⟩ := DataW.trod_int Tryd.underlying41 h0
    obtain ⟨a1, e1, _, f1⟩ := DataW.trod_int Tryd.underlying41 h1
    simp at e0 e1
    subst e0 e1
    have b0 := bounds_u16 f0
    have b1 := bounds_u16 f1
    obtain ⟨n0, rfl⟩ := Int.eq_ofNat_of_zero_le (show 0 ≤ a0 by omega)
    obtain ⟨n1, rfl⟩ := Int.eq_ofNat_of_zero_le (show 0 ≤ a1 by omega)
    exact ⟨n0, n1, rfl, by omega, by omega⟩
end Go.Proofs.YtmioaeaobefphaaDoor
/- Proved: the statement StoreFlipped. -/
namespace Go.Proofs.YtmioaeaobefphaaDoor
open Go.ChangeShapes Go.WideShapes Go.ChangeAt Go.RowKit
set_option linter.unusedVariables false
set_option maxHeartbeats 2000000

set_option maxRecDepth 100000 in
theorem lifted_StoreFlipped (os : Os) (started : os.Started) (H : Type) (enc : TypeId × Value → H) :
    ReturnsInHanded {} Tryd.checked os 6 .any (fun w args => (Rows.storeFlippedSpec.pre enc Tryd.prog Tryd.f6 [] false w args ∧ laidMetH Tryd.prog laidV w) ∧ sizedMet enc Tryd.prog Tryd.f6 (OpenSpec.ofChange Rows.storeFlippedSpec) false w args)
      (Rows.storeFlippedSpec.post enc Tryd.prog Tryd.f6 false true false false) := by
  refine returnsInHanded_of_change_and (C := Tryd.checked) (X := fun w _ => laidMetH Tryd.prog laidV w) (fun _ _ _ hh h => h.of_heap hh) own started (by kernel_rfl) Tryd.func6
    (ChangeSpec.witness_shaped (enc := enc) (C := Tryd.checked) (os := os) (X := fun w _ => laidMetH Tryd.prog laidV w) false (World.doorLaid Tryd.prog 400 os) #[.slice none 0 0, .agg #[.int .u16 0, .int .u16 0], .int .u8 0] 8 rfl (World.shaped_of_RefB (by kernel_rfl) (by kernel_rfl)) (by kernel_rfl) (by kernel_rfl) (by kernel_rfl) (door_met os _)) ?_
  intro W base args ds gs before hval0 hW _ _ hL _
  have hval : ∀ (j : Nat) t v, Tryd.f6.params[j]? = some t → args[j]? = some v → Value.okWide Tryd.prog W .any base t v := hval0
  have hW' := hW
  obtain ⟨p, q, hA0, hV, rfl, hfz, hnd⟩ := hW
  have hlt : ∀ x ∈ p ++ q, x.block < W.heap.size := fun x hx => hW'.lt x hx
  have hA : DataW.TrodAll enc Tryd.prog W 0 (fun _ => true) true Tryd.f6.params.toList args.toList ds p := hA0
  rw [Tryd.params6] at hA hval
  clear hA0 hval0
  obtain ⟨v0, vs0, d0, ds0, p0, q0, hargs0, rfl, rfl, h0, r0⟩ := trodAll_cons hA
  obtain ⟨v1, vs1, d1, ds1, p1, q1, hargs1, rfl, rfl, h1, r1⟩ := trodAll_cons r0
  obtain ⟨v2, vs2, d2, ds2, p2, q2, hargs2, rfl, rfl, h2, r2⟩ := trodAll_cons r1
  obtain ⟨hn1, rfl, rfl⟩ := trodAll_nil r2
  subst hn1
  subst hargs2
  subst hargs1
  obtain rfl : args = #[v0, v1, v2] := by cases args; simp_all
  obtain ⟨rfl, rfl⟩ := trodVars_none hV
  obtain ⟨l0, u0⟩ := open_entries (hval 0 29 v0 rfl rfl) h0 (fun x hx => hlt x (by simp [hx]))
  obtain ⟨na1, nb1, hv1, hna1, hnb1⟩ := open_two16 (hval 1 43 v1 rfl rfl) h1
  subst hv1
  obtain ⟨z2, rfl, rfl, rfl, hz2⟩ := open_int Tryd.underlying5 (hval 2 5 v2 rfl rfl) h2
  have hb2 := bounds_u8 hz2
  obtain ⟨n2, rfl⟩ := Int.eq_ofNat_of_zero_le (show 0 ≤ z2 by omega)
  refine (StoreFlipped_walk W u0 na1 nb1 hna1 hnb1 n2 (by omega) (gl_of_laid hL)).mono fun e W' ⟨he, hB⟩ => ?_
  subst he
  exact ⟨_, rfl, law_post hW' rfl (by rw [Tryd.params6]; decide +kernel) rfl rfl rfl rfl hB⟩

theorem storeFlipped_said : Rows.StoreFlippedSaid :=
  OpenClaim.holds_of_wide 6 Tryd.f6 rfl rfl rfl rfl rfl rfl rfl ⟨rfl, rfl, rfl, rfl, rfl⟩ rfl rfl rfl rfl rfl (by kernel_rfl) Tryd.func6 (by kernel_rfl)
    (of_decide_eq_true (by kernel_rfl)) (by unfold Func.isWrapper; first | (rw [if_pos (by decide +kernel)]; kernel_rfl) | (rw [if_neg (by decide +kernel)]; exact ⟨rfl, rfl⟩))
    (fun os started H enc _ => lifted_StoreFlipped os started H enc)
/-- The statement: the card, tied. -/
theorem storeFlipped_holds : Rows.StoreFlippedCardSaid :=
  Claim7.holds_tied_plain_at .later [] [.handle, .data] true Rows.storeFlippedCard.stood.harness true
    storeFlipped_said (fun _ h => by cases h) (by kernel_rfl) (fun _ h => by cases h) storeFlipped_row_tie rfl ⟨rfl, rfl⟩ (by kernel_rfl) rfl
    (fun f fn hf hfn => by
      obtain rfl : f = 6 := Option.some.inj ((show Tryd.prog.funcNamed "ziggurat/zigguratlaw30.StoreFlipped" = some 6 by kernel_rfl).symm.trans hf) |>.symm
      obtain rfl : fn = Tryd.f6 := (Option.some.inj (Tryd.func6.symm.trans hfn)).symm
      exact ⟨by kernel_rfl, fun j t ht => by
        rw [Tryd.params6] at ht
        have hm : t ∈ [29, 43, 5] := by simpa using Array.mem_of_getElem? ht
        have hall : ([29, 43, 5].all fun u => !Tryd.prog.wantsStandIn u) = true := by kernel_rfl
        exact (show Tryd.prog.wantsStandIn t = false by simpa using List.all_eq_true.1 hall t hm)⟩)
    (by kernel_rfl)
end Go.Proofs.YtmioaeaobefphaaDoor
