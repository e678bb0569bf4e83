/- What a log begins with. -/
import Derived.Test.YtmioaeaobefphaaDoorBaj

namespace Go.Proofs.YtmioaeaobefphaaDoor
open Go.RowKit 
set_option linter.unusedVariables false
set_option linter.unusedSimpArgs false
set_option maxRecDepth 100000
set_option maxHeartbeats 4000000

abbrev errW (c : Int) : Value := .iface 60 (.agg #[.int .i64 c])
/-- What a log begins with, as it is handed back. -/
def OneR (b : T.Byt) (n t : ByteArray) (k c : Int) : Prop := match T.one b with
  | none => k = 0 ∧ c = 301
  | some none => k = 0 ∧ c = 300
  | some (some (x, m)) => n = mkS x.1 ∧ t = mkS x.2 ∧ k = ((m : Nat) : Int) ∧ c = 0
theorem OneR.cut {b : T.Byt} {n t : ByteArray} (h : b.length < 8 ∨ b.length - 8 < T.number b) : OneR b n t 0 301 := by unfold OneR; rw [T.one_none h]; exact ⟨rfl, rfl⟩
theorem OneR.sum {b : T.Byt} {n t : ByteArray} (h : ¬ (b.length < 8 ∨ b.length - 8 < T.number b)) (hs : T.csum (b.take (T.number b + 4)) ≠ T.number (b.drop (T.number b + 4))) : OneR b n t 0 300 := by unfold OneR; rw [T.one_sum h hs]; exact ⟨rfl, rfl⟩
theorem OneR.bad {b : T.Byt} {n t : ByteArray} (h : ¬ (b.length < 8 ∨ b.length - 8 < T.number b)) (hs : T.csum (b.take (T.number b + 4)) = T.number (b.drop (T.number b + 4))) (he : T.ent ((b.take (T.number b + 4)).drop 4) = none) : OneR b n t 0 300 := by
  unfold OneR; rw [T.one_ent h hs, he]; exact ⟨rfl, rfl⟩
theorem OneR.ok {b : T.Byt} {n t : ByteArray} {x : T.Ent} (h : ¬ (b.length < 8 ∨ b.length - 8 < T.number b)) (hs : T.csum (b.take (T.number b + 4)) = T.number (b.drop (T.number b + 4))) (he : T.ent ((b.take (T.number b + 4)).drop 4) = some x) (hn : n = mkS x.1) (ht : t = mkS x.2) : OneR b n t ((T.number b + 8 : Nat) : Int) 0 := by
  unfold OneR; rw [T.one_ent h hs, he]; exact ⟨hn, ht, rfl, rfl⟩
theorem EntR.none_of {p : T.Byt} {n t : ByteArray} (h : EntR p n t false) : T.ent p = none := by
  unfold EntR at h
  cases he : T.ent p with
  | none => rfl
  | some x => rw [he] at h; exact absurd h.2.2 (by decide)
theorem EntR.some_of {p : T.Byt} {n t : ByteArray} (h : EntR p n t true) : ∃ x, T.ent p = some x ∧ n = mkS x.1 ∧ t = mkS x.2 := by
  unfold EntR at h
  cases he : T.ent p with
  | none => rw [he] at h; cases h
  | some x => rw [he] at h; exact ⟨x, rfl, h.1, h.2.1⟩
theorem num_cut (b : T.Byt) (l k : Nat) (h : l + 4 ≤ k) : T.number ((b.drop l).take (k - l)) = T.number (b.drop l) := T.number_take _ _ (by omega)
theorem pl_len (b : T.Byt) (h : T.number b + 4 ≤ b.length) : ((b.take (T.number b + 4)).drop 4).length = T.number b := by rw [List.length_drop, List.length_take]; omega
theorem pl_bt (b : T.Byt) (h0 : 0 < T.number b) : T.bt ((b.take (T.number b + 4)).drop 4) 0 = T.bt b 4 := by
  unfold T.bt
  rw [List.getElem?_drop, List.getElem?_take_of_lt (by omega)]
theorem pl_name (b : T.Byt) (m : Nat) (h : 5 + m ≤ T.number b + 4) : (((b.take (T.number b + 4)).drop 4).drop 1).take m = (b.drop 5).take m := by
  rw [List.drop_drop, List.drop_take, List.take_take, Nat.min_eq_left (by omega)]
theorem pl_text (b : T.Byt) (m : Nat) : ((b.take (T.number b + 4)).drop 4).drop (1 + m) = (b.drop (5 + m)).take (4 + T.number b - (5 + m)) := by
  rw [List.drop_drop, List.drop_take, show 4 + (1 + m) = 5 + m by omega, show T.number b + 4 = 4 + T.number b by omega]
theorem first_calls (w : World) {v : Value} {lo : Nat} {bs : T.Byt} (h : By w lo v bs) (hg : Gl w) :
    Calls Tryd.prog 35 #[v] w fun e w' => ∃ n t k c, e = .returned (.tuple #[.agg #[.string n, .string t], .int .i64 k, if c = 0 then .nilIface else errW c]) ∧ OneR bs n t k c ∧ Pl.Ex w w' := by
  obtain ⟨A, c, rfl, hn, hc⟩ := h.sh
  have hnl := T.number_lt bs
  refine Pl.calls_by (n := 57) (vs := [.slice A bs.length c]) Tryd.func35 rfl (by kernel_rfl) (by simp) ?_
  repeat refine Pl.V_seq ?_
  refine Pl.V_region (by kernel_rfl) ?_
  refine Pl.qA_al (z := .agg #[.string ⟨#[]⟩, .string ⟨#[]⟩]) (by kernel_rfl) rfl rfl rfl rfl (fun Y hY => trivial) ?_
  intro N1 w1 hE1 hN_N1 k_N1_0
  have z_N1 := Pl.Cb.lt k_N1_0
  have sz1 := Pl.Ex.size hE1
  replace k_N1_0 : Pl.Cb w1 N1 24 [.string ⟨#[]⟩, .string ⟨#[]⟩] := k_N1_0
  refine Pl.qA_go trivial rfl ?_
  refine Pl.pA_end ?_
  by_cases h8 : bs.length < 8
  · repeat refine Pl.V_seq ?_
    refine Pl.V_region (by kernel_rfl) ?_
    refine Pl.qA_go trivial rfl ?_
    refine Pl.qA_ln Tryd.underlying22 trivial rfl rfl rfl rfl rfl ?_
    refine Pl.qA_b (v := .bool true) (fun X => Pl.r_lss (decide_eq_true (by omega)) X) trivial rfl rfl rfl rfl rfl rfl ?_
    refine Pl.qA_go trivial rfl ?_
    refine Pl.pA_end ?_
    repeat refine Pl.V_seq ?_
    refine Pl.V_true rfl ?_
    repeat refine Pl.V_seq ?_
    refine Pl.V_region (by kernel_rfl) ?_
    refine Pl.qA_ev (.agg #[.string ⟨#[]⟩, .string ⟨#[]⟩]) trivial rfl rfl rfl rfl (fun X => by kernel_rfl) ?_
    refine Pl.qA_ev (.agg #[.int .i64 301]) trivial rfl rfl rfl rfl (fun X => by kernel_rfl) ?_
    refine Pl.qA_ev (.iface 60 (.agg #[.int .i64 301])) trivial rfl rfl rfl rfl (fun X => by kernel_rfl) ?_
    refine Pl.qA_sw (new := [.string ⟨#[]⟩, .string ⟨#[]⟩]) k_N1_0 (by kernel_rfl) rfl (by simp [Value.oneCell']) rfl rfl rfl rfl rfl rfl (fun Y hY => trivial) ?_
    intro w2 hX2 k_N1_1
    have hE2 := Pl.Ex.xs hE1 hX2 (by omega)
    have sz2 := Pl.Xs.size hX2
    refine Pl.qA_go trivial rfl ?_
    refine Pl.pA_end ?_
    repeat refine Pl.V_seq ?_
    exact Pl.post_c2 rfl rfl rfl rfl (Pl.cellOf k_N1_1 Tryd.underlying24 rfl (by kernel_rfl)) ⟨_, _, 0, 301, rfl, OneR.cut (.inl h8), hE2⟩
  · by_cases hnn : bs.length - 8 < T.number bs
    · repeat refine Pl.V_seq ?_
      refine Pl.V_region (by kernel_rfl) ?_
      refine Pl.qA_go trivial rfl ?_
      refine Pl.qA_ln Tryd.underlying22 trivial rfl rfl rfl rfl rfl ?_
      refine Pl.qA_b (v := .bool false) (fun X => Pl.r_lss (decide_eq_false (by omega)) X) trivial rfl rfl rfl rfl rfl rfl ?_
      refine Pl.qA_go trivial rfl ?_
      refine Pl.qA_ln Tryd.underlying22 trivial rfl rfl rfl rfl rfl ?_
      refine Pl.qA_b (v := .int .i64 (((bs.length - 8) : Nat) : Int)) (fun X => Pl.r_sub (Pl.s64 (a := bs.length) (b := 8) rfl rfl (by omega) (by omega)) X) trivial rfl rfl rfl rfl rfl rfl ?_
      refine Pl.qA_go trivial rfl ?_
      refine Pl.pA_call rfl rfl rfl rfl rfl (fun u X => Pl.enters Tryd.func41 (by kernel_rfl) rfl u X) ?_
      refine Calls.mono (number_calls _ _ _ _ (By.ex h hE1) (by omega)) ?_
      rintro e w2 ⟨rfl, hE2⟩
      have sz2 := Pl.Ex.size hE2
      refine ⟨_, rfl, trivial, ?_⟩
      refine Pl.qA_cv (c := ((T.number bs : Nat) : Int)) Tryd.underlying3 (by kernel_rfl) (Pl.c_id (a := T.number bs) rfl (Pl.w64 (by omega) (by omega))) trivial rfl rfl rfl rfl rfl ?_
      refine Pl.qA_b (v := .bool true) (fun X => Pl.r_lss (decide_eq_true (by omega)) X) trivial rfl rfl rfl rfl rfl rfl ?_
      refine Pl.qA_go trivial rfl ?_
      refine Pl.pA_end ?_
      repeat refine Pl.V_seq ?_
      refine Pl.V_true rfl ?_
      repeat refine Pl.V_seq ?_
      refine Pl.V_region (by kernel_rfl) ?_
      refine Pl.qA_ev (.agg #[.string ⟨#[]⟩, .string ⟨#[]⟩]) trivial rfl rfl rfl rfl (fun X => by kernel_rfl) ?_
      refine Pl.qA_ev (.agg #[.int .i64 301]) trivial rfl rfl rfl rfl (fun X => by kernel_rfl) ?_
      refine Pl.qA_ev (.iface 60 (.agg #[.int .i64 301])) trivial rfl rfl rfl rfl (fun X => by kernel_rfl) ?_
      refine Pl.qA_sw (new := [.string ⟨#[]⟩, .string ⟨#[]⟩]) (Pl.Cb.ex k_N1_0 hE2) (by kernel_rfl) rfl (by simp [Value.oneCell']) rfl rfl rfl rfl rfl rfl (fun Y hY => trivial) ?_
      intro w3 hX3 k_N1_1
      have hE3 := Pl.Ex.xs (Pl.Ex.trans hE1 hE2) hX3 (by omega)
      have sz3 := Pl.Xs.size hX3
      refine Pl.qA_go trivial rfl ?_
      refine Pl.pA_end ?_
      repeat refine Pl.V_seq ?_
      exact Pl.post_c2 rfl rfl rfl rfl (Pl.cellOf k_N1_1 Tryd.underlying24 rfl (by kernel_rfl)) ⟨_, _, 0, 301, rfl, OneR.cut (.inr hnn), hE3⟩
    · have hno : ¬ (bs.length < 8 ∨ bs.length - 8 < T.number bs) := by omega
      repeat refine Pl.V_seq ?_
      refine Pl.V_region (by kernel_rfl) ?_
      refine Pl.qA_go trivial rfl ?_
      refine Pl.qA_ln Tryd.underlying22 trivial rfl rfl rfl rfl rfl ?_
      refine Pl.qA_b (v := .bool false) (fun X => Pl.r_lss (decide_eq_false (by omega)) X) trivial rfl rfl rfl rfl rfl rfl ?_
      refine Pl.qA_go trivial rfl ?_
      refine Pl.qA_ln Tryd.underlying22 trivial rfl rfl rfl rfl rfl ?_
      refine Pl.qA_b (v := .int .i64 (((bs.length - 8) : Nat) : Int)) (fun X => Pl.r_sub (Pl.s64 (a := bs.length) (b := 8) rfl rfl (by omega) (by omega)) X) trivial rfl rfl rfl rfl rfl rfl ?_
      refine Pl.qA_go trivial rfl ?_
      refine Pl.pA_call rfl rfl rfl rfl rfl (fun u X => Pl.enters Tryd.func41 (by kernel_rfl) rfl u X) ?_
      refine Calls.mono (number_calls _ _ _ _ (By.ex h hE1) (by omega)) ?_
      rintro e w2 ⟨rfl, hE2⟩
      have sz2 := Pl.Ex.size hE2
      refine ⟨_, rfl, trivial, ?_⟩
      refine Pl.qA_cv (c := ((T.number bs : Nat) : Int)) Tryd.underlying3 (by kernel_rfl) (Pl.c_id (a := T.number bs) rfl (Pl.w64 (by omega) (by omega))) trivial rfl rfl rfl rfl rfl ?_
      refine Pl.qA_b (v := .bool false) (fun X => Pl.r_lss (decide_eq_false (by omega)) X) trivial rfl rfl rfl rfl rfl rfl ?_
      refine Pl.qA_go trivial rfl ?_
      refine Pl.pA_end ?_
      repeat refine Pl.V_seq ?_
      refine Pl.V_false rfl ?_
      repeat refine Pl.V_seq ?_
      refine Pl.V_skip ?_
      repeat refine Pl.V_seq ?_
      refine Pl.V_region (by kernel_rfl) ?_
      refine Pl.qA_go trivial rfl ?_
      refine Pl.pA_call rfl rfl rfl rfl rfl (fun u X => Pl.enters Tryd.func41 (by kernel_rfl) rfl u X) ?_
      refine Calls.mono (number_calls _ _ _ _ (By.ex h (Pl.Ex.trans hE1 hE2)) (by omega)) ?_
      rintro e w3 ⟨rfl, hE3⟩
      have sz3 := Pl.Ex.size hE3
      refine ⟨_, rfl, trivial, ?_⟩
      refine Pl.qA_cv (c := ((T.number bs : Nat) : Int)) Tryd.underlying3 (by kernel_rfl) (Pl.c_id (a := T.number bs) rfl (Pl.w64 (by omega) (by omega))) trivial rfl rfl rfl rfl rfl ?_
      refine Pl.qA_b (v := .int .i64 ((T.number bs + 8 : Nat) : Int)) (fun X => Pl.r_add (Pl.a64 (a := T.number bs) (b := 8) rfl rfl (by omega)) X) trivial rfl rfl rfl rfl rfl rfl ?_
      refine Pl.qA_go trivial rfl ?_
      refine Pl.pA_end ?_
      repeat refine Pl.V_seq ?_
      refine Pl.V_region (by kernel_rfl) ?_
      refine Pl.qA_go trivial rfl ?_
      refine Pl.qA_b (v := .int .i64 ((T.number bs + 4 : Nat) : Int)) (fun X => Pl.r_sub (by rw [Pl.w64 (by omega) (by omega)]; omega) X) trivial rfl rfl rfl rfl rfl rfl ?_
      refine Pl.qA_sl (kl := .i64) (kh := .i64) (lo' := 0) (hi' := (T.number bs + 4)) (s := 1) Tryd.underlying22 (by kernel_rfl) (.inl ⟨rfl, rfl⟩) (.inr ⟨_, _, rfl, rfl, rfl⟩) (by omega) (by omega) trivial rfl rfl rfl rfl rfl ?_
      rw [cutA_zero]
      refine Pl.qA_go trivial rfl ?_
      refine Pl.pA_end ?_
      have hB0 := By.ex h (Pl.Ex.trans hE1 (Pl.Ex.trans hE2 hE3))
      have hhd := hB0.head (k := T.number bs + 4) (by omega)
      have hct := hB0.cut (l := T.number bs + 4) (k := T.number bs + 8) (by omega) (by omega)
      have hcl : ((bs.drop (T.number bs + 4)).take (T.number bs + 8 - (T.number bs + 4))).length = 4 := by rw [List.length_take, List.length_drop]; omega
      have hcn := num_cut bs (T.number bs + 4) (T.number bs + 8) (by omega)
      by_cases hs : T.csum (bs.take (T.number bs + 4)) = T.number (bs.drop (T.number bs + 4))
      · repeat refine Pl.V_seq ?_
        refine Pl.V_draw (S := fun X => Pl.Ex w3 X) [(true, 0, 0), (true, 2, 1), (true, 3, 5), (true, 4, 13), (true, 5, 29), (true, 6, 61), (false, 1, 125), (false, 7, 127), (true, 8, 255)] fo Pl.post_panic (by kernel_rfl) (Pl.Ex.trans (Pl.Ex.refl _) (Pl.Ex.drew _)) ?_
        have hE4 := Pl.Ex.drew w3
        generalize w3.drew = w4 at *
        have sz4 := Pl.Ex.size hE4
        intro hS4
        refine Pl.qA_go hS4 rfl ?_
        refine Pl.qA_b (v := .int .i64 ((T.number bs + 4 : Nat) : Int)) (fun X => Pl.r_sub (by rw [Pl.w64 (by omega) (by omega)]; omega) X) hS4 rfl rfl rfl rfl rfl rfl ?_
        refine Pl.qA_go hS4 rfl ?_
        refine Pl.qA_sl (kl := .i64) (kh := .i64) (lo' := (T.number bs + 4)) (hi' := (T.number bs + 8)) (s := 1) Tryd.underlying22 (by kernel_rfl) (.inr ⟨_, _, rfl, rfl, rfl⟩) (.inr ⟨_, _, rfl, rfl, rfl⟩) (by omega) (by omega) hS4 rfl rfl rfl rfl rfl ?_
        refine Pl.pA_call rfl rfl rfl rfl rfl (fun u X => Pl.enters Tryd.func17 (by kernel_rfl) rfl u X) ?_
        refine Calls.mono (sumE _ (By.ex hhd hE4) (hg.ex (Pl.Ex.trans hE1 (Pl.Ex.trans hE2 (Pl.Ex.trans hE3 hE4))))) ?_
        rintro e w5 ⟨rfl, hE5⟩
        have sz5 := Pl.Ex.size hE5
        have hS5 := Pl.Ex.trans hS4 hE5
        refine ⟨_, rfl, hS5, ?_⟩
        refine Pl.pA_call rfl rfl rfl rfl rfl (fun u X => Pl.enters Tryd.func41 (by kernel_rfl) rfl u X) ?_
        refine Calls.mono (number_calls _ _ _ _ (By.ex hct (Pl.Ex.trans hE4 hE5)) (by omega)) ?_
        rintro e w6 ⟨rfl, hE6⟩
        have sz6 := Pl.Ex.size hE6
        have hS6 := Pl.Ex.trans hS5 hE6
        refine ⟨_, rfl, hS6, ?_⟩
        refine Pl.qA_b (v := .bool false) (fun X => Pl.r_neq (Pl.n_f (by omega)) X) hS6 rfl rfl rfl rfl rfl rfl ?_
        refine Pl.pA_end ?_
        repeat refine Pl.V_seq ?_
        refine Pl.V_false rfl ?_
        repeat refine Pl.V_seq ?_
        refine Pl.V_skip ?_
        have hrs := By.rest (l := 4) hhd (by rw [List.length_take]; omega)
        have hl4 : (bs.take (T.number bs + 4)).length = T.number bs + 4 := by rw [List.length_take]; omega
        rw [hl4] at hrs
        repeat refine Pl.V_seq ?_
        refine Pl.V_region (by kernel_rfl) ?_
        refine Pl.qA_go trivial rfl ?_
        refine Pl.qA_sl (kl := .i64) (kh := .i64) (lo' := 4) (hi' := (T.number bs + 4)) (s := 1) Tryd.underlying22 (by kernel_rfl) (.inr ⟨_, _, rfl, rfl, rfl⟩) (.inl ⟨rfl, rfl, by omega⟩) (by omega) (by omega) trivial rfl rfl rfl rfl rfl ?_
        refine Pl.pA_call rfl rfl rfl rfl rfl (fun u X => Pl.enters Tryd.func42 (by kernel_rfl) rfl u X) ?_
        refine Calls.mono (entry_calls _ (By.ex hrs (Pl.Ex.trans hE4 (Pl.Ex.trans hE5 hE6)))) ?_
        rintro e w7 ⟨n1, t1, b1, rfl, hen, hE7⟩
        have sz7 := Pl.Ex.size hE7
        refine ⟨_, rfl, trivial, ?_⟩
        refine Pl.qA_go trivial rfl ?_
        refine Pl.qA_al (z := .agg #[.string ⟨#[]⟩, .string ⟨#[]⟩]) (by kernel_rfl) rfl rfl rfl rfl (fun Y hY => trivial) ?_
        intro N2 w8 hE8 hN_N2 k_N2_0
        have z_N2 := Pl.Cb.lt k_N2_0
        have sz8 := Pl.Ex.size hE8
        replace k_N2_0 : Pl.Cb w8 N2 24 [.string ⟨#[]⟩, .string ⟨#[]⟩] := k_N2_0
        refine Pl.qA_sw (new := [.string n1, .string t1]) k_N2_0 (by kernel_rfl) rfl (by simp [Value.oneCell']) rfl rfl rfl rfl rfl rfl (fun Y hY => trivial) ?_
        intro w9 hX9 k_N2_1
        have hE9 := Pl.Ex.xs hE8 hX9 (by omega)
        have sz9 := Pl.Xs.size hX9
        refine Pl.qA_go trivial rfl ?_
        refine Pl.pA_end ?_
        cases b1
        · repeat refine Pl.V_seq ?_
          refine Pl.V_region (by kernel_rfl) ?_
          refine Pl.qA_go trivial rfl ?_
          refine Pl.qA_un (v := .bool true) trivial rfl rfl rfl rfl rfl (fun X => rfl) ?_
          refine Pl.pA_end ?_
          repeat refine Pl.V_seq ?_
          refine Pl.V_true rfl ?_
          repeat refine Pl.V_seq ?_
          refine Pl.V_region (by kernel_rfl) ?_
          refine Pl.qA_ev (.agg #[.string ⟨#[]⟩, .string ⟨#[]⟩]) trivial rfl rfl rfl rfl (fun X => by kernel_rfl) ?_
          refine Pl.qA_ev (.agg #[.int .i64 300]) trivial rfl rfl rfl rfl (fun X => by kernel_rfl) ?_
          refine Pl.qA_ev (.iface 60 (.agg #[.int .i64 300])) trivial rfl rfl rfl rfl (fun X => by kernel_rfl) ?_
          refine Pl.qA_sw (new := [.string ⟨#[]⟩, .string ⟨#[]⟩]) (Pl.Cb.ex k_N1_0 (Pl.Ex.trans hE2 (Pl.Ex.trans hE3 (Pl.Ex.trans hE4 (Pl.Ex.trans hE5 (Pl.Ex.trans hE6 (Pl.Ex.trans hE7 hE9))))))) (by kernel_rfl) rfl (by simp [Value.oneCell']) rfl rfl rfl rfl rfl rfl (fun Y hY => trivial) ?_
          intro w10 hX10 k_N1_1
          have hE10 := Pl.Ex.xs (Pl.Ex.trans hE1 (Pl.Ex.trans hE2 (Pl.Ex.trans hE3 (Pl.Ex.trans hE4 (Pl.Ex.trans hE5 (Pl.Ex.trans hE6 (Pl.Ex.trans hE7 hE9))))))) hX10 (by omega)
          have sz10 := Pl.Xs.size hX10
          have k_N2_2 := Pl.Cb.xs k_N2_1 hX10 (by simp; omega)
          refine Pl.qA_go trivial rfl ?_
          refine Pl.pA_end ?_
          repeat refine Pl.V_seq ?_
          exact Pl.post_c2 rfl rfl rfl rfl (Pl.cellOf k_N1_1 Tryd.underlying24 rfl (by kernel_rfl)) ⟨_, _, 0, 300, rfl, OneR.bad hno hs hen.none_of, hE10⟩
        · repeat refine Pl.V_seq ?_
          refine Pl.V_region (by kernel_rfl) ?_
          refine Pl.qA_go trivial rfl ?_
          refine Pl.qA_un (v := .bool false) trivial rfl rfl rfl rfl rfl (fun X => rfl) ?_
          refine Pl.pA_end ?_
          repeat refine Pl.V_seq ?_
          refine Pl.V_false rfl ?_
          repeat refine Pl.V_seq ?_
          refine Pl.V_skip ?_
          obtain ⟨x, hx, hx1, hx2⟩ := hen.some_of
          repeat refine Pl.V_seq ?_
          refine Pl.V_region (by kernel_rfl) ?_
          refine Pl.qA_lrw (part := [.string n1, .string t1]) k_N2_1 rfl Tryd.underlying24 rfl (by kernel_rfl) trivial rfl rfl rfl rfl rfl ?_
          refine Pl.qA_go trivial rfl ?_
          refine Pl.qA_sw (new := [.string n1, .string t1]) (Pl.Cb.ex k_N1_0 (Pl.Ex.trans hE2 (Pl.Ex.trans hE3 (Pl.Ex.trans hE4 (Pl.Ex.trans hE5 (Pl.Ex.trans hE6 (Pl.Ex.trans hE7 hE9))))))) (by kernel_rfl) rfl (by simp [Value.oneCell']) rfl rfl rfl rfl rfl rfl (fun Y hY => trivial) ?_
          intro w10 hX10 k_N1_1
          have hE10 := Pl.Ex.xs (Pl.Ex.trans hE1 (Pl.Ex.trans hE2 (Pl.Ex.trans hE3 (Pl.Ex.trans hE4 (Pl.Ex.trans hE5 (Pl.Ex.trans hE6 (Pl.Ex.trans hE7 hE9))))))) hX10 (by omega)
          have sz10 := Pl.Xs.size hX10
          have k_N2_2 := Pl.Cb.xs k_N2_1 hX10 (by simp; omega)
          refine Pl.qA_go trivial rfl ?_
          refine Pl.pA_end ?_
          repeat refine Pl.V_seq ?_
          exact Pl.post_c2 rfl rfl rfl rfl (Pl.cellOf k_N1_1 Tryd.underlying24 rfl (by kernel_rfl)) ⟨_, _, _, 0, rfl, OneR.ok hno hs hx hx1 hx2, hE10⟩
      · repeat refine Pl.V_seq ?_
        refine Pl.V_draw (S := fun X => Pl.Ex w3 X) [(true, 0, 0), (true, 2, 1), (true, 3, 5), (true, 4, 13), (true, 5, 29), (true, 6, 61), (false, 1, 125), (false, 7, 127), (true, 8, 255)] fo Pl.post_panic (by kernel_rfl) (Pl.Ex.trans (Pl.Ex.refl _) (Pl.Ex.drew _)) ?_
        have hE4 := Pl.Ex.drew w3
        generalize w3.drew = w4 at *
        have sz4 := Pl.Ex.size hE4
        intro hS4
        refine Pl.qA_go hS4 rfl ?_
        refine Pl.qA_b (v := .int .i64 ((T.number bs + 4 : Nat) : Int)) (fun X => Pl.r_sub (by rw [Pl.w64 (by omega) (by omega)]; omega) X) hS4 rfl rfl rfl rfl rfl rfl ?_
        refine Pl.qA_go hS4 rfl ?_
        refine Pl.qA_sl (kl := .i64) (kh := .i64) (lo' := (T.number bs + 4)) (hi' := (T.number bs + 8)) (s := 1) Tryd.underlying22 (by kernel_rfl) (.inr ⟨_, _, rfl, rfl, rfl⟩) (.inr ⟨_, _, rfl, rfl, rfl⟩) (by omega) (by omega) hS4 rfl rfl rfl rfl rfl ?_
        refine Pl.pA_call rfl rfl rfl rfl rfl (fun u X => Pl.enters Tryd.func17 (by kernel_rfl) rfl u X) ?_
        refine Calls.mono (sumE _ (By.ex hhd hE4) (hg.ex (Pl.Ex.trans hE1 (Pl.Ex.trans hE2 (Pl.Ex.trans hE3 hE4))))) ?_
        rintro e w5 ⟨rfl, hE5⟩
        have sz5 := Pl.Ex.size hE5
        have hS5 := Pl.Ex.trans hS4 hE5
        refine ⟨_, rfl, hS5, ?_⟩
        refine Pl.pA_call rfl rfl rfl rfl rfl (fun u X => Pl.enters Tryd.func41 (by kernel_rfl) rfl u X) ?_
        refine Calls.mono (number_calls _ _ _ _ (By.ex hct (Pl.Ex.trans hE4 hE5)) (by omega)) ?_
        rintro e w6 ⟨rfl, hE6⟩
        have sz6 := Pl.Ex.size hE6
        have hS6 := Pl.Ex.trans hS5 hE6
        refine ⟨_, rfl, hS6, ?_⟩
        refine Pl.qA_b (v := .bool true) (fun X => Pl.r_neq (Pl.n_t (by omega)) X) hS6 rfl rfl rfl rfl rfl rfl ?_
        refine Pl.pA_end ?_
        repeat refine Pl.V_seq ?_
        refine Pl.V_true rfl ?_
        repeat refine Pl.V_seq ?_
        refine Pl.V_region (by kernel_rfl) ?_
        refine Pl.qA_ev (.agg #[.string ⟨#[]⟩, .string ⟨#[]⟩]) trivial rfl rfl rfl rfl (fun X => by kernel_rfl) ?_
        refine Pl.qA_ev (.agg #[.int .i64 300]) trivial rfl rfl rfl rfl (fun X => by kernel_rfl) ?_
        refine Pl.qA_ev (.iface 60 (.agg #[.int .i64 300])) trivial rfl rfl rfl rfl (fun X => by kernel_rfl) ?_
        refine Pl.qA_sw (new := [.string ⟨#[]⟩, .string ⟨#[]⟩]) (Pl.Cb.ex k_N1_0 (Pl.Ex.trans hE2 (Pl.Ex.trans hE3 (Pl.Ex.trans hE4 (Pl.Ex.trans hE5 hE6))))) (by kernel_rfl) rfl (by simp [Value.oneCell']) rfl rfl rfl rfl rfl rfl (fun Y hY => trivial) ?_
        intro w7 hX7 k_N1_1
        have hE7 := Pl.Ex.xs (Pl.Ex.trans hE1 (Pl.Ex.trans hE2 (Pl.Ex.trans hE3 (Pl.Ex.trans hE4 (Pl.Ex.trans hE5 hE6))))) hX7 (by omega)
        have sz7 := Pl.Xs.size hX7
        refine Pl.qA_go trivial rfl ?_
        refine Pl.pA_end ?_
        repeat refine Pl.V_seq ?_
        exact Pl.post_c2 rfl rfl rfl rfl (Pl.cellOf k_N1_1 Tryd.underlying24 rfl (by kernel_rfl)) ⟨_, _, 0, 300, rfl, OneR.sum hno hs, hE7⟩
theorem one_calls (w : World) {v : Value} {lo : Nat} {bs : T.Byt} (h : By w lo v bs) :
    Calls Tryd.prog 30 #[v] w fun e w' => ∃ n t k c, e = .returned (.tuple #[.agg #[.string n, .string t], .int .i64 k, .int .i64 c]) ∧ OneR bs n t k c ∧ Pl.Ex w w' := by
  obtain ⟨A, c, rfl, hn, hc⟩ := h.sh
  have hnl := T.number_lt bs
  refine Pl.calls_by (n := 69) (vs := [.slice A bs.length c]) Tryd.func30 rfl (by kernel_rfl) (by simp) ?_
  repeat refine Pl.V_seq ?_
  refine Pl.V_region (by kernel_rfl) ?_
  refine Pl.qA_al (z := .agg #[.string ⟨#[]⟩, .string ⟨#[]⟩]) (by kernel_rfl) rfl rfl rfl rfl (fun Y hY => trivial) ?_
  intro N1 w1 hE1 hN_N1 k_N1_0
  have z_N1 := Pl.Cb.lt k_N1_0
  have sz1 := Pl.Ex.size hE1
  replace k_N1_0 : Pl.Cb w1 N1 24 [.string ⟨#[]⟩, .string ⟨#[]⟩] := k_N1_0
  refine Pl.qA_go trivial rfl ?_
  refine Pl.pA_end ?_
  by_cases h4 : bs.length < 4
  · repeat refine Pl.V_seq ?_
    refine Pl.V_region (by kernel_rfl) ?_
    refine Pl.qA_go trivial rfl ?_
    refine Pl.qA_ln Tryd.underlying22 trivial rfl rfl rfl rfl rfl ?_
    refine Pl.qA_b (v := .bool true) (fun X => Pl.r_lss (decide_eq_true (by omega)) X) trivial rfl rfl rfl rfl rfl rfl ?_
    refine Pl.pA_end ?_
    repeat refine Pl.V_seq ?_
    refine Pl.V_true rfl ?_
    repeat refine Pl.V_seq ?_
    refine Pl.V_region (by kernel_rfl) ?_
    refine Pl.qA_ev (.agg #[.string ⟨#[]⟩, .string ⟨#[]⟩]) trivial rfl rfl rfl rfl (fun X => by kernel_rfl) ?_
    refine Pl.qA_sw (new := [.string ⟨#[]⟩, .string ⟨#[]⟩]) k_N1_0 (by kernel_rfl) rfl (by simp [Value.oneCell']) rfl rfl rfl rfl rfl rfl (fun Y hY => trivial) ?_
    intro w2 hX2 k_N1_1
    have hE2 := Pl.Ex.xs hE1 hX2 (by omega)
    have sz2 := Pl.Xs.size hX2
    refine Pl.qA_go trivial rfl ?_
    refine Pl.pA_end ?_
    repeat refine Pl.V_seq ?_
    exact Pl.post_c2 rfl rfl rfl rfl (Pl.cellOf k_N1_1 Tryd.underlying24 rfl (by kernel_rfl)) ⟨_, _, 0, 301, rfl, OneR.cut (.inl (by omega)), hE2⟩
  · obtain ⟨ad, rfl, hat⟩ := h.all (by omega)
    repeat refine Pl.V_seq ?_
    refine Pl.V_region (by kernel_rfl) ?_
    refine Pl.qA_go trivial rfl ?_
    refine Pl.qA_ln Tryd.underlying22 trivial rfl rfl rfl rfl rfl ?_
    refine Pl.qA_b (v := .bool false) (fun X => Pl.r_lss (decide_eq_false (by omega)) X) trivial rfl rfl rfl rfl rfl rfl ?_
    refine Pl.pA_end ?_
    repeat refine Pl.V_seq ?_
    refine Pl.V_false rfl ?_
    repeat refine Pl.V_seq ?_
    refine Pl.V_skip ?_
    repeat refine Pl.V_seq ?_
    refine Pl.V_region (by kernel_rfl) ?_
    refine Pl.qA_go trivial rfl ?_
    refine Pl.pA_call rfl rfl rfl rfl rfl (fun u X => Pl.enters Tryd.func40 (by kernel_rfl) rfl u X) ?_
    refine Calls.mono (rnumber_calls _ _ _ _ (By.ex h hE1) (by omega)) ?_
    rintro e w2 ⟨rfl, hE2⟩
    have sz2 := Pl.Ex.size hE2
    refine ⟨_, rfl, trivial, ?_⟩
    refine Pl.qA_cv (c := ((T.number bs : Nat) : Int)) Tryd.underlying3 (by kernel_rfl) (Pl.c_id (a := T.number bs) rfl (Pl.w64 (by omega) (by omega))) trivial rfl rfl rfl rfl rfl ?_
    refine Pl.qA_go trivial rfl ?_
    refine Pl.pA_end ?_
    by_cases hnn : bs.length < 8 ∨ bs.length - 8 < T.number bs
    · repeat refine Pl.V_seq ?_
      refine Pl.V_region (by kernel_rfl) ?_
      refine Pl.qA_go trivial rfl ?_
      refine Pl.qA_ln Tryd.underlying22 trivial rfl rfl rfl rfl rfl ?_
      refine Pl.qA_b (v := .int .i64 (((bs.length : Nat) : Int) - 8)) (fun X => Pl.r_sub (Pl.w64 (by omega) (by omega)) X) trivial rfl rfl rfl rfl rfl rfl ?_
      refine Pl.qA_go trivial rfl ?_
      refine Pl.qA_b (v := .bool true) (fun X => Pl.r_lss (decide_eq_true (by omega)) X) trivial rfl rfl rfl rfl rfl rfl ?_
      refine Pl.pA_end ?_
      repeat refine Pl.V_seq ?_
      refine Pl.V_true rfl ?_
      repeat refine Pl.V_seq ?_
      refine Pl.V_region (by kernel_rfl) ?_
      refine Pl.qA_ev (.agg #[.string ⟨#[]⟩, .string ⟨#[]⟩]) trivial rfl rfl rfl rfl (fun X => by kernel_rfl) ?_
      refine Pl.qA_sw (new := [.string ⟨#[]⟩, .string ⟨#[]⟩]) (Pl.Cb.ex k_N1_0 hE2) (by kernel_rfl) rfl (by simp [Value.oneCell']) rfl rfl rfl rfl rfl rfl (fun Y hY => trivial) ?_
      intro w3 hX3 k_N1_1
      have hE3 := Pl.Ex.xs (Pl.Ex.trans hE1 hE2) hX3 (by omega)
      have sz3 := Pl.Xs.size hX3
      refine Pl.qA_go trivial rfl ?_
      refine Pl.pA_end ?_
      repeat refine Pl.V_seq ?_
      exact Pl.post_c2 rfl rfl rfl rfl (Pl.cellOf k_N1_1 Tryd.underlying24 rfl (by kernel_rfl)) ⟨_, _, 0, 301, rfl, OneR.cut hnn, hE3⟩
    · repeat refine Pl.V_seq ?_
      refine Pl.V_region (by kernel_rfl) ?_
      refine Pl.qA_go trivial rfl ?_
      refine Pl.qA_ln Tryd.underlying22 trivial rfl rfl rfl rfl rfl ?_
      refine Pl.qA_b (v := .int .i64 (((bs.length : Nat) : Int) - 8)) (fun X => Pl.r_sub (Pl.w64 (by omega) (by omega)) X) trivial rfl rfl rfl rfl rfl rfl ?_
      refine Pl.qA_go trivial rfl ?_
      refine Pl.qA_b (v := .bool false) (fun X => Pl.r_lss (decide_eq_false (by omega)) X) trivial rfl rfl rfl rfl rfl rfl ?_
      refine Pl.pA_end ?_
      repeat refine Pl.V_seq ?_
      refine Pl.V_false rfl ?_
      repeat refine Pl.V_seq ?_
      refine Pl.V_skip ?_
      have hB0 := By.ex h (Pl.Ex.trans hE1 hE2)
      have hcm : 4 + T.number bs = T.number bs + 4 := Nat.add_comm _ _
      have hhd := hB0.head (k := 4 + T.number bs) (by omega)
      have hrs := hB0.rest (l := 4 + T.number bs) (by omega)
      have hl5 : 4 ≤ (bs.drop (4 + T.number bs)).length := by rw [List.length_drop]; omega
      have hpl := pl_len bs (by omega)
      have hb4 := T.bt_lt bs 4
      by_cases hs : T.csum (bs.take (4 + T.number bs)) = T.number (bs.drop (4 + T.number bs))
      · have hs2 := hs
        rw [hcm] at hs2
        by_cases h0 : T.number bs < 1
        · have hbad : T.ent ((bs.take (T.number bs + 4)).drop 4) = none := by rw [List.eq_nil_of_length_eq_zero (hpl.trans (by omega))]; rfl
          repeat refine Pl.V_seq ?_
          refine Pl.V_draw (S := fun X => Pl.Ex w2 X) [(true, 0, 0), (true, 1, 1), (true, 2, 3), (true, 3, 7), (true, 5, 15), (true, 6, 47), (true, 7, 111), (true, 8, 239), (false, 4, 495), (false, 9, 511), (true, 10, 1023), (true, 11, 2047), (true, 12, 4095), (true, 13, 8191), (true, 14, 16383), (true, 15, 32767), (true, 16, 65535), (true, 17, 131071), (true, 18, 262143), (true, 19, 524287), (true, 20, 1048575), (true, 21, 2097151), (true, 22, 4194303), (true, 23, 8388607)] fo Pl.post_panic (by kernel_rfl) (Pl.Ex.trans (Pl.Ex.refl _) (Pl.Ex.drew _)) ?_
          have hE3 := Pl.Ex.drew w2
          generalize w2.drew = w3 at *
          have sz3 := Pl.Ex.size hE3
          intro hS3
          refine Pl.qA_go hS3 rfl ?_
          refine Pl.qA_b (v := .int .i64 (((4 + T.number bs) : Nat) : Int)) (fun X => Pl.r_add (Pl.a64 (a := 4) (b := T.number bs) rfl rfl (by omega)) X) hS3 rfl rfl rfl rfl rfl rfl ?_
          refine Pl.qA_sl (kl := .i64) (kh := .i64) (lo' := 0) (hi' := ((4 + T.number bs))) (s := 1) Tryd.underlying22 (by kernel_rfl) (.inl ⟨rfl, rfl⟩) (.inr ⟨_, _, rfl, rfl, rfl⟩) (by omega) (by omega) hS3 rfl rfl rfl rfl rfl ?_
          rw [cutA_zero]
          refine Pl.qA_go hS3 rfl ?_
          refine Pl.qA_b (v := .int .i64 (((4 + T.number bs) : Nat) : Int)) (fun X => Pl.r_add (Pl.a64 (a := 4) (b := T.number bs) rfl rfl (by omega)) X) hS3 rfl rfl rfl rfl rfl rfl ?_
          refine Pl.qA_sl (kl := .i64) (kh := .i64) (lo' := ((4 + T.number bs))) (hi' := bs.length) (s := 1) Tryd.underlying22 (by kernel_rfl) (.inr ⟨_, _, rfl, rfl, rfl⟩) (.inl ⟨rfl, rfl, by omega⟩) (by omega) (by omega) hS3 rfl rfl rfl rfl rfl ?_
          refine Pl.pA_call rfl rfl rfl rfl rfl (fun u X => Pl.enters Tryd.func18 (by kernel_rfl) rfl u X) ?_
          refine Calls.mono (rsumE _ (By.ex hhd hE3)) ?_
          rintro e w4 ⟨rfl, hE4⟩
          have sz4 := Pl.Ex.size hE4
          have hS4 := Pl.Ex.trans hS3 hE4
          refine ⟨_, rfl, hS4, ?_⟩
          refine Pl.pA_call rfl rfl rfl rfl rfl (fun u X => Pl.enters Tryd.func40 (by kernel_rfl) rfl u X) ?_
          refine Calls.mono (rnumber_calls _ _ _ _ (By.ex hrs (Pl.Ex.trans hE3 hE4)) (by omega)) ?_
          rintro e w5 ⟨rfl, hE5⟩
          have sz5 := Pl.Ex.size hE5
          have hS5 := Pl.Ex.trans hS4 hE5
          refine ⟨_, rfl, hS5, ?_⟩
          refine Pl.qA_b (v := .bool false) (fun X => Pl.r_neq (Pl.n_f (by omega)) X) hS5 rfl rfl rfl rfl rfl rfl ?_
          refine Pl.qA_go hS5 rfl ?_
          refine Pl.qA_b (v := .bool true) (fun X => Pl.r_lss (decide_eq_true (by omega)) X) hS5 rfl rfl rfl rfl rfl rfl ?_
          refine Pl.qA_go hS5 rfl ?_
          refine Pl.pA_end ?_
          repeat refine Pl.V_seq ?_
          refine Pl.V_true rfl ?_
          repeat refine Pl.V_seq ?_
          refine Pl.V_region (by kernel_rfl) ?_
          refine Pl.qA_ev (.agg #[.string ⟨#[]⟩, .string ⟨#[]⟩]) trivial rfl rfl rfl rfl (fun X => by kernel_rfl) ?_
          refine Pl.qA_sw (new := [.string ⟨#[]⟩, .string ⟨#[]⟩]) (Pl.Cb.ex k_N1_0 (Pl.Ex.trans hE2 (Pl.Ex.trans hE3 (Pl.Ex.trans hE4 hE5)))) (by kernel_rfl) rfl (by simp [Value.oneCell']) rfl rfl rfl rfl rfl rfl (fun Y hY => trivial) ?_
          intro w6 hX6 k_N1_1
          have hE6 := Pl.Ex.xs (Pl.Ex.trans hE1 (Pl.Ex.trans hE2 (Pl.Ex.trans hE3 (Pl.Ex.trans hE4 hE5)))) hX6 (by omega)
          have sz6 := Pl.Xs.size hX6
          refine Pl.qA_go trivial rfl ?_
          refine Pl.pA_end ?_
          repeat refine Pl.V_seq ?_
          exact Pl.post_c2 rfl rfl rfl rfl (Pl.cellOf k_N1_1 Tryd.underlying24 rfl (by kernel_rfl)) ⟨_, _, 0, 300, rfl, OneR.bad hnn hs2 hbad, hE6⟩
        · have hbt := pl_bt bs (by omega)
          by_cases h1 : T.number bs < 1 + T.bt bs 4
          · have hbad := T.ent_none (p := (bs.take (T.number bs + 4)).drop 4) (by omega)
            repeat refine Pl.V_seq ?_
            refine Pl.V_draw (S := fun X => Pl.Ex w2 X) [(true, 0, 0), (true, 1, 1), (true, 2, 3), (true, 3, 7), (true, 5, 15), (true, 6, 47), (true, 7, 111), (true, 8, 239), (false, 4, 495), (false, 9, 511), (true, 10, 1023), (true, 11, 2047), (true, 12, 4095), (true, 13, 8191), (true, 14, 16383), (true, 15, 32767), (true, 16, 65535), (true, 17, 131071), (true, 18, 262143), (true, 19, 524287), (true, 20, 1048575), (true, 21, 2097151), (true, 22, 4194303), (true, 23, 8388607)] fo Pl.post_panic (by kernel_rfl) (Pl.Ex.trans (Pl.Ex.refl _) (Pl.Ex.drew _)) ?_
            have hE3 := Pl.Ex.drew w2
            generalize w2.drew = w3 at *
            have sz3 := Pl.Ex.size hE3
            intro hS3
            refine Pl.qA_go hS3 rfl ?_
            refine Pl.qA_b (v := .int .i64 (((4 + T.number bs) : Nat) : Int)) (fun X => Pl.r_add (Pl.a64 (a := 4) (b := T.number bs) rfl rfl (by omega)) X) hS3 rfl rfl rfl rfl rfl rfl ?_
            refine Pl.qA_sl (kl := .i64) (kh := .i64) (lo' := 0) (hi' := ((4 + T.number bs))) (s := 1) Tryd.underlying22 (by kernel_rfl) (.inl ⟨rfl, rfl⟩) (.inr ⟨_, _, rfl, rfl, rfl⟩) (by omega) (by omega) hS3 rfl rfl rfl rfl rfl ?_
            rw [cutA_zero]
            refine Pl.qA_go hS3 rfl ?_
            refine Pl.qA_b (v := .int .i64 (((4 + T.number bs) : Nat) : Int)) (fun X => Pl.r_add (Pl.a64 (a := 4) (b := T.number bs) rfl rfl (by omega)) X) hS3 rfl rfl rfl rfl rfl rfl ?_
            refine Pl.qA_sl (kl := .i64) (kh := .i64) (lo' := ((4 + T.number bs))) (hi' := bs.length) (s := 1) Tryd.underlying22 (by kernel_rfl) (.inr ⟨_, _, rfl, rfl, rfl⟩) (.inl ⟨rfl, rfl, by omega⟩) (by omega) (by omega) hS3 rfl rfl rfl rfl rfl ?_
            refine Pl.pA_call rfl rfl rfl rfl rfl (fun u X => Pl.enters Tryd.func18 (by kernel_rfl) rfl u X) ?_
            refine Calls.mono (rsumE _ (By.ex hhd hE3)) ?_
            rintro e w4 ⟨rfl, hE4⟩
            have sz4 := Pl.Ex.size hE4
            have hS4 := Pl.Ex.trans hS3 hE4
            refine ⟨_, rfl, hS4, ?_⟩
            refine Pl.pA_call rfl rfl rfl rfl rfl (fun u X => Pl.enters Tryd.func40 (by kernel_rfl) rfl u X) ?_
            refine Calls.mono (rnumber_calls _ _ _ _ (By.ex hrs (Pl.Ex.trans hE3 hE4)) (by omega)) ?_
            rintro e w5 ⟨rfl, hE5⟩
            have sz5 := Pl.Ex.size hE5
            have hS5 := Pl.Ex.trans hS4 hE5
            refine ⟨_, rfl, hS5, ?_⟩
            refine Pl.qA_b (v := .bool false) (fun X => Pl.r_neq (Pl.n_f (by omega)) X) hS5 rfl rfl rfl rfl rfl rfl ?_
            refine Pl.qA_go hS5 rfl ?_
            refine Pl.qA_b (v := .bool false) (fun X => Pl.r_lss (decide_eq_false (by omega)) X) hS5 rfl rfl rfl rfl rfl rfl ?_
            refine Pl.qA_go hS5 rfl ?_
            refine Pl.qA_ix (s := 1) (j := 4) Tryd.underlying22 (by kernel_rfl) rfl (by omega) hS5 rfl rfl rfl rfl rfl rfl ?_
            refine Pl.qA_lc (v := .int .u8 ((T.bt bs 4 : Nat) : Int)) Tryd.underlying5 rfl (fun X hX => hat 4 (by omega) X (Pl.Ex.trans (Pl.Ex.trans hE1 hE2) hX)) hS5 rfl rfl rfl rfl rfl ?_
            refine Pl.qA_cv (c := ((T.bt bs 4 : Nat) : Int)) Tryd.underlying3 (by kernel_rfl) (Pl.c_id (a := T.bt bs 4) rfl (Pl.w64 (by omega) (by omega))) hS5 rfl rfl rfl rfl rfl ?_
            refine Pl.qA_b (v := .int .i64 (((1 + T.bt bs 4) : Nat) : Int)) (fun X => Pl.r_add (Pl.a64 (a := 1) (b := T.bt bs 4) rfl rfl (by omega)) X) hS5 rfl rfl rfl rfl rfl rfl ?_
            refine Pl.qA_b (v := .bool true) (fun X => Pl.r_lss (decide_eq_true (by omega)) X) hS5 rfl rfl rfl rfl rfl rfl ?_
            refine Pl.qA_go hS5 rfl ?_
            refine Pl.pA_end ?_
            repeat refine Pl.V_seq ?_
            refine Pl.V_true rfl ?_
            repeat refine Pl.V_seq ?_
            refine Pl.V_region (by kernel_rfl) ?_
            refine Pl.qA_ev (.agg #[.string ⟨#[]⟩, .string ⟨#[]⟩]) trivial rfl rfl rfl rfl (fun X => by kernel_rfl) ?_
            refine Pl.qA_sw (new := [.string ⟨#[]⟩, .string ⟨#[]⟩]) (Pl.Cb.ex k_N1_0 (Pl.Ex.trans hE2 (Pl.Ex.trans hE3 (Pl.Ex.trans hE4 hE5)))) (by kernel_rfl) rfl (by simp [Value.oneCell']) rfl rfl rfl rfl rfl rfl (fun Y hY => trivial) ?_
            intro w6 hX6 k_N1_1
            have hE6 := Pl.Ex.xs (Pl.Ex.trans hE1 (Pl.Ex.trans hE2 (Pl.Ex.trans hE3 (Pl.Ex.trans hE4 hE5)))) hX6 (by omega)
            have sz6 := Pl.Xs.size hX6
            refine Pl.qA_go trivial rfl ?_
            refine Pl.pA_end ?_
            repeat refine Pl.V_seq ?_
            exact Pl.post_c2 rfl rfl rfl rfl (Pl.cellOf k_N1_1 Tryd.underlying24 rfl (by kernel_rfl)) ⟨_, _, 0, 300, rfl, OneR.bad hnn hs2 hbad, hE6⟩
          · repeat refine Pl.V_seq ?_
            refine Pl.V_draw (S := fun X => Pl.Ex w2 X) [(true, 0, 0), (true, 1, 1), (true, 2, 3), (true, 3, 7), (true, 5, 15), (true, 6, 47), (true, 7, 111), (true, 8, 239), (false, 4, 495), (false, 9, 511), (true, 10, 1023), (true, 11, 2047), (true, 12, 4095), (true, 13, 8191), (true, 14, 16383), (true, 15, 32767), (true, 16, 65535), (true, 17, 131071), (true, 18, 262143), (true, 19, 524287), (true, 20, 1048575), (true, 21, 2097151), (true, 22, 4194303), (true, 23, 8388607)] fo Pl.post_panic (by kernel_rfl) (Pl.Ex.trans (Pl.Ex.refl _) (Pl.Ex.drew _)) ?_
            have hE3 := Pl.Ex.drew w2
            generalize w2.drew = w3 at *
            have sz3 := Pl.Ex.size hE3
            intro hS3
            refine Pl.qA_go hS3 rfl ?_
            refine Pl.qA_b (v := .int .i64 (((4 + T.number bs) : Nat) : Int)) (fun X => Pl.r_add (Pl.a64 (a := 4) (b := T.number bs) rfl rfl (by omega)) X) hS3 rfl rfl rfl rfl rfl rfl ?_
            refine Pl.qA_sl (kl := .i64) (kh := .i64) (lo' := 0) (hi' := ((4 + T.number bs))) (s := 1) Tryd.underlying22 (by kernel_rfl) (.inl ⟨rfl, rfl⟩) (.inr ⟨_, _, rfl, rfl, rfl⟩) (by omega) (by omega) hS3 rfl rfl rfl rfl rfl ?_
            rw [cutA_zero]
            refine Pl.qA_go hS3 rfl ?_
            refine Pl.qA_b (v := .int .i64 (((4 + T.number bs) : Nat) : Int)) (fun X => Pl.r_add (Pl.a64 (a := 4) (b := T.number bs) rfl rfl (by omega)) X) hS3 rfl rfl rfl rfl rfl rfl ?_
            refine Pl.qA_sl (kl := .i64) (kh := .i64) (lo' := ((4 + T.number bs))) (hi' := bs.length) (s := 1) Tryd.underlying22 (by kernel_rfl) (.inr ⟨_, _, rfl, rfl, rfl⟩) (.inl ⟨rfl, rfl, by omega⟩) (by omega) (by omega) hS3 rfl rfl rfl rfl rfl ?_
            refine Pl.pA_call rfl rfl rfl rfl rfl (fun u X => Pl.enters Tryd.func18 (by kernel_rfl) rfl u X) ?_
            refine Calls.mono (rsumE _ (By.ex hhd hE3)) ?_
            rintro e w4 ⟨rfl, hE4⟩
            have sz4 := Pl.Ex.size hE4
            have hS4 := Pl.Ex.trans hS3 hE4
            refine ⟨_, rfl, hS4, ?_⟩
            refine Pl.pA_call rfl rfl rfl rfl rfl (fun u X => Pl.enters Tryd.func40 (by kernel_rfl) rfl u X) ?_
            refine Calls.mono (rnumber_calls _ _ _ _ (By.ex hrs (Pl.Ex.trans hE3 hE4)) (by omega)) ?_
            rintro e w5 ⟨rfl, hE5⟩
            have sz5 := Pl.Ex.size hE5
            have hS5 := Pl.Ex.trans hS4 hE5
            refine ⟨_, rfl, hS5, ?_⟩
            refine Pl.qA_b (v := .bool false) (fun X => Pl.r_neq (Pl.n_f (by omega)) X) hS5 rfl rfl rfl rfl rfl rfl ?_
            refine Pl.qA_go hS5 rfl ?_
            refine Pl.qA_b (v := .bool false) (fun X => Pl.r_lss (decide_eq_false (by omega)) X) hS5 rfl rfl rfl rfl rfl rfl ?_
            refine Pl.qA_go hS5 rfl ?_
            refine Pl.qA_ix (s := 1) (j := 4) Tryd.underlying22 (by kernel_rfl) rfl (by omega) hS5 rfl rfl rfl rfl rfl rfl ?_
            refine Pl.qA_lc (v := .int .u8 ((T.bt bs 4 : Nat) : Int)) Tryd.underlying5 rfl (fun X hX => hat 4 (by omega) X (Pl.Ex.trans (Pl.Ex.trans hE1 hE2) hX)) hS5 rfl rfl rfl rfl rfl ?_
            refine Pl.qA_cv (c := ((T.bt bs 4 : Nat) : Int)) Tryd.underlying3 (by kernel_rfl) (Pl.c_id (a := T.bt bs 4) rfl (Pl.w64 (by omega) (by omega))) hS5 rfl rfl rfl rfl rfl ?_
            refine Pl.qA_b (v := .int .i64 (((1 + T.bt bs 4) : Nat) : Int)) (fun X => Pl.r_add (Pl.a64 (a := 1) (b := T.bt bs 4) rfl rfl (by omega)) X) hS5 rfl rfl rfl rfl rfl rfl ?_
            refine Pl.qA_b (v := .bool false) (fun X => Pl.r_lss (decide_eq_false (by omega)) X) hS5 rfl rfl rfl rfl rfl rfl ?_
            refine Pl.qA_go hS5 rfl ?_
            refine Pl.pA_end ?_
            repeat refine Pl.V_seq ?_
            refine Pl.V_false rfl ?_
            repeat refine Pl.V_seq ?_
            refine Pl.V_skip ?_
            have hes := T.ent_some (p := (bs.take (T.number bs + 4)).drop 4) (by omega)
            rw [hbt, pl_name bs (T.bt bs 4) (by omega), pl_text] at hes
            repeat refine Pl.V_seq ?_
            refine Pl.V_region (by kernel_rfl) ?_
            refine Pl.qA_go trivial rfl ?_
            refine Pl.qA_ix (s := 1) (j := 4) Tryd.underlying22 (by kernel_rfl) rfl (by omega) trivial rfl rfl rfl rfl rfl rfl ?_
            refine Pl.qA_lcw (v := .int .u8 ((T.bt bs 4 : Nat) : Int)) Tryd.underlying5 rfl (hat 4 (by omega) _ (Pl.Ex.trans hE1 (Pl.Ex.trans hE2 (Pl.Ex.trans hE3 (Pl.Ex.trans hE4 hE5))))) trivial rfl rfl rfl rfl rfl ?_
            refine Pl.qA_cv (c := ((T.bt bs 4 : Nat) : Int)) Tryd.underlying3 (by kernel_rfl) (Pl.c_id (a := T.bt bs 4) rfl (Pl.w64 (by omega) (by omega))) trivial rfl rfl rfl rfl rfl ?_
            refine Pl.qA_b (v := .int .i64 (((5 + T.bt bs 4) : Nat) : Int)) (fun X => Pl.r_add (Pl.a64 (a := 5) (b := T.bt bs 4) rfl rfl (by omega)) X) trivial rfl rfl rfl rfl rfl rfl ?_
            refine Pl.qA_go trivial rfl ?_
            refine Pl.pA_end ?_
            have hB1 := By.ex h (Pl.Ex.trans hE1 (Pl.Ex.trans hE2 (Pl.Ex.trans hE3 (Pl.Ex.trans hE4 hE5))))
            have hc1 : By w5 lo (Pl.cutA (some ad) 5 (5 + T.bt bs 4) c 1) ((bs.drop 5).take (T.bt bs 4)) := by have := hB1.cut (l := 5) (k := 5 + T.bt bs 4) (by omega) (by omega); rwa [Nat.add_sub_cancel_left] at this
            have hc2 := hB1.cut (l := 5 + T.bt bs 4) (k := 4 + T.number bs) (by omega) (by omega)
            generalize (bs.drop 5).take (T.bt bs 4) = f1 at *
            generalize (bs.drop (5 + T.bt bs 4)).take (4 + T.number bs - (5 + T.bt bs 4)) = f2 at *
            repeat refine Pl.V_seq ?_
            refine Pl.V_draw (S := fun X => Pl.Ex w5 X) [(true, 0, 0), (true, 1, 1), (true, 2, 3), (true, 3, 7), (true, 4, 15), (true, 5, 31), (true, 6, 63), (true, 7, 127), (true, 8, 255), (true, 9, 511), (true, 10, 1023), (false, 11, 2047), (false, 12, 4095)] fo Pl.post_panic (by kernel_rfl) (Pl.Ex.trans (Pl.Ex.refl _) (Pl.Ex.drew _)) ?_
            have hE6 := Pl.Ex.drew w5
            generalize w5.drew = w6 at *
            have sz6 := Pl.Ex.size hE6
            intro hS6
            refine Pl.qA_go hS6 rfl ?_
            refine Pl.qA_sl (kl := .i64) (kh := .i64) (lo' := 5) (hi' := ((5 + T.bt bs 4))) (s := 1) Tryd.underlying22 (by kernel_rfl) (.inr ⟨_, _, rfl, rfl, rfl⟩) (.inr ⟨_, _, rfl, rfl, rfl⟩) (by omega) (by omega) hS6 rfl rfl rfl rfl rfl ?_
            refine qA_fs (bs := f1) (fun X hX => By.ex hc1 hX) hS6 rfl rfl rfl rfl rfl ?_
            refine Pl.qA_go hS6 rfl ?_
            refine Pl.qA_b (v := .int .i64 (((4 + T.number bs) : Nat) : Int)) (fun X => Pl.r_add (Pl.a64 (a := 4) (b := T.number bs) rfl rfl (by omega)) X) hS6 rfl rfl rfl rfl rfl rfl ?_
            refine Pl.qA_sl (kl := .i64) (kh := .i64) (lo' := ((5 + T.bt bs 4))) (hi' := ((4 + T.number bs))) (s := 1) Tryd.underlying22 (by kernel_rfl) (.inr ⟨_, _, rfl, rfl, rfl⟩) (.inr ⟨_, _, rfl, rfl, rfl⟩) (by omega) (by omega) hS6 rfl rfl rfl rfl rfl ?_
            refine qA_fs (bs := f2) (fun X hX => By.ex hc2 hX) hS6 rfl rfl rfl rfl rfl ?_
            refine Pl.qA_ev (.agg #[.string (mkS (f1)), .string (mkS (f2))]) hS6 rfl rfl rfl rfl (fun X => by kernel_rfl) ?_
            refine Pl.qA_al (z := .agg #[.string ⟨#[]⟩, .string ⟨#[]⟩]) (by kernel_rfl) rfl rfl rfl rfl (fun Y hY => Pl.Ex.trans hS6 hY) ?_
            intro N2 w7 hE7 hN_N2 k_N2_0
            have z_N2 := Pl.Cb.lt k_N2_0
            have sz7 := Pl.Ex.size hE7
            replace k_N2_0 : Pl.Cb w7 N2 24 [.string ⟨#[]⟩, .string ⟨#[]⟩] := k_N2_0
            have hS7 := Pl.Ex.trans hS6 hE7
            refine Pl.qA_sw (new := [.string (mkS (f1)), .string (mkS (f2))]) k_N2_0 (by kernel_rfl) rfl (by simp [Value.oneCell']) rfl rfl rfl rfl rfl rfl (fun Y hY => Pl.Ex.xs hS7 hY (by omega)) ?_
            intro w8 hX8 k_N2_1
            have hE8 := Pl.Ex.xs hE7 hX8 (by omega)
            have sz8 := Pl.Xs.size hX8
            have hS8 := Pl.Ex.xs hS7 hX8 (by omega)
            refine Pl.pA_end ?_
            by_cases hm : T.May (f1, f2)
            · rw [if_pos hm] at hes
              repeat refine Pl.V_seq ?_
              refine Pl.V_region (by kernel_rfl) ?_
              refine Pl.qA_lrw (part := [.string (mkS (f1)), .string (mkS (f2))]) k_N2_1 rfl Tryd.underlying24 rfl (by kernel_rfl) trivial rfl rfl rfl rfl rfl ?_
              refine Pl.pA_call rfl rfl rfl rfl rfl (fun u X => Pl.enters Tryd.func23 (by kernel_rfl) rfl u X) ?_
              refine Calls.mono (rmay_yes (e0 := (f1, f2)) _ hm) ?_
              rintro e w9 ⟨rfl, hE9⟩
              have sz9 := Pl.Ex.size hE9
              refine ⟨_, rfl, trivial, ?_⟩
              refine Pl.qA_un (v := .bool false) trivial rfl rfl rfl rfl rfl (fun X => rfl) ?_
              refine Pl.pA_end ?_
              repeat refine Pl.V_seq ?_
              refine Pl.V_false rfl ?_
              repeat refine Pl.V_seq ?_
              refine Pl.V_skip ?_
              repeat refine Pl.V_seq ?_
              refine Pl.V_region (by kernel_rfl) ?_
              refine Pl.qA_lrw (part := [.string (mkS (f1)), .string (mkS (f2))]) (Pl.Cb.ex k_N2_1 hE9) rfl Tryd.underlying24 rfl (by kernel_rfl) trivial rfl rfl rfl rfl rfl ?_
              refine Pl.qA_go trivial rfl ?_
              refine Pl.qA_b (v := .int .i64 (((T.number bs + 8) : Nat) : Int)) (fun X => Pl.r_add (Pl.a64 (a := T.number bs) (b := 8) rfl rfl (by omega)) X) trivial rfl rfl rfl rfl rfl rfl ?_
              refine Pl.qA_sw (new := [.string (mkS (f1)), .string (mkS (f2))]) (Pl.Cb.ex k_N1_0 (Pl.Ex.trans hE2 (Pl.Ex.trans hE3 (Pl.Ex.trans hE4 (Pl.Ex.trans hE5 (Pl.Ex.trans hE6 (Pl.Ex.trans hE8 hE9))))))) (by kernel_rfl) rfl (by simp [Value.oneCell']) rfl rfl rfl rfl rfl rfl (fun Y hY => trivial) ?_
              intro w10 hX10 k_N1_1
              have hE10 := Pl.Ex.xs (Pl.Ex.trans hE1 (Pl.Ex.trans hE2 (Pl.Ex.trans hE3 (Pl.Ex.trans hE4 (Pl.Ex.trans hE5 (Pl.Ex.trans hE6 (Pl.Ex.trans hE8 hE9))))))) hX10 (by omega)
              have sz10 := Pl.Xs.size hX10
              have k_N2_2 := Pl.Cb.xs (Pl.Cb.ex k_N2_1 hE9) hX10 (by simp; omega)
              refine Pl.qA_go trivial rfl ?_
              refine Pl.pA_end ?_
              repeat refine Pl.V_seq ?_
              exact Pl.post_c2 rfl rfl rfl rfl (Pl.cellOf k_N1_1 Tryd.underlying24 rfl (by kernel_rfl)) ⟨_, _, _, 0, rfl, OneR.ok hnn hs2 hes rfl rfl, hE10⟩
            · rw [if_neg hm] at hes
              repeat refine Pl.V_seq ?_
              refine Pl.V_region (by kernel_rfl) ?_
              refine Pl.qA_lrw (part := [.string (mkS (f1)), .string (mkS (f2))]) k_N2_1 rfl Tryd.underlying24 rfl (by kernel_rfl) trivial rfl rfl rfl rfl rfl ?_
              refine Pl.pA_call rfl rfl rfl rfl rfl (fun u X => Pl.enters Tryd.func23 (by kernel_rfl) rfl u X) ?_
              refine Calls.mono (rmay_no (e0 := (f1, f2)) _ hm) ?_
              rintro e w9 ⟨rfl, hE9⟩
              have sz9 := Pl.Ex.size hE9
              refine ⟨_, rfl, trivial, ?_⟩
              refine Pl.qA_un (v := .bool true) trivial rfl rfl rfl rfl rfl (fun X => rfl) ?_
              refine Pl.pA_end ?_
              repeat refine Pl.V_seq ?_
              refine Pl.V_true rfl ?_
              repeat refine Pl.V_seq ?_
              refine Pl.V_region (by kernel_rfl) ?_
              refine Pl.qA_ev (.agg #[.string ⟨#[]⟩, .string ⟨#[]⟩]) trivial rfl rfl rfl rfl (fun X => by kernel_rfl) ?_
              refine Pl.qA_sw (new := [.string ⟨#[]⟩, .string ⟨#[]⟩]) (Pl.Cb.ex k_N1_0 (Pl.Ex.trans hE2 (Pl.Ex.trans hE3 (Pl.Ex.trans hE4 (Pl.Ex.trans hE5 (Pl.Ex.trans hE6 (Pl.Ex.trans hE8 hE9))))))) (by kernel_rfl) rfl (by simp [Value.oneCell']) rfl rfl rfl rfl rfl rfl (fun Y hY => trivial) ?_
              intro w10 hX10 k_N1_1
              have hE10 := Pl.Ex.xs (Pl.Ex.trans hE1 (Pl.Ex.trans hE2 (Pl.Ex.trans hE3 (Pl.Ex.trans hE4 (Pl.Ex.trans hE5 (Pl.Ex.trans hE6 (Pl.Ex.trans hE8 hE9))))))) hX10 (by omega)
              have sz10 := Pl.Xs.size hX10
              have k_N2_2 := Pl.Cb.xs (Pl.Cb.ex k_N2_1 hE9) hX10 (by simp; omega)
              refine Pl.qA_go trivial rfl ?_
              refine Pl.pA_end ?_
              repeat refine Pl.V_seq ?_
              exact Pl.post_c2 rfl rfl rfl rfl (Pl.cellOf k_N1_1 Tryd.underlying24 rfl (by kernel_rfl)) ⟨_, _, 0, 300, rfl, OneR.bad hnn hs2 hes, hE10⟩
      · have hs2 := hs
        rw [hcm] at hs2
        repeat refine Pl.V_seq ?_
        refine Pl.V_draw (S := fun X => Pl.Ex w2 X) [(true, 0, 0), (true, 1, 1), (true, 2, 3), (true, 3, 7), (true, 5, 15), (true, 6, 47), (true, 7, 111), (true, 8, 239), (false, 4, 495), (false, 9, 511), (true, 10, 1023), (true, 11, 2047), (true, 12, 4095), (true, 13, 8191), (true, 14, 16383), (true, 15, 32767), (true, 16, 65535), (true, 17, 131071), (true, 18, 262143), (true, 19, 524287), (true, 20, 1048575), (true, 21, 2097151), (true, 22, 4194303), (true, 23, 8388607)] fo Pl.post_panic (by kernel_rfl) (Pl.Ex.trans (Pl.Ex.refl _) (Pl.Ex.drew _)) ?_
        have hE3 := Pl.Ex.drew w2
        generalize w2.drew = w3 at *
        have sz3 := Pl.Ex.size hE3
        intro hS3
        refine Pl.qA_go hS3 rfl ?_
        refine Pl.qA_b (v := .int .i64 (((4 + T.number bs) : Nat) : Int)) (fun X => Pl.r_add (Pl.a64 (a := 4) (b := T.number bs) rfl rfl (by omega)) X) hS3 rfl rfl rfl rfl rfl rfl ?_
        refine Pl.qA_sl (kl := .i64) (kh := .i64) (lo' := 0) (hi' := ((4 + T.number bs))) (s := 1) Tryd.underlying22 (by kernel_rfl) (.inl ⟨rfl, rfl⟩) (.inr ⟨_, _, rfl, rfl, rfl⟩) (by omega) (by omega) hS3 rfl rfl rfl rfl rfl ?_
        rw [cutA_zero]
        refine Pl.qA_go hS3 rfl ?_
        refine Pl.qA_b (v := .int .i64 (((4 + T.number bs) : Nat) : Int)) (fun X => Pl.r_add (Pl.a64 (a := 4) (b := T.number bs) rfl rfl (by omega)) X) hS3 rfl rfl rfl rfl rfl rfl ?_
        refine Pl.qA_sl (kl := .i64) (kh := .i64) (lo' := ((4 + T.number bs))) (hi' := bs.length) (s := 1) Tryd.underlying22 (by kernel_rfl) (.inr ⟨_, _, rfl, rfl, rfl⟩) (.inl ⟨rfl, rfl, by omega⟩) (by omega) (by omega) hS3 rfl rfl rfl rfl rfl ?_
        refine Pl.pA_call rfl rfl rfl rfl rfl (fun u X => Pl.enters Tryd.func18 (by kernel_rfl) rfl u X) ?_
        refine Calls.mono (rsumE _ (By.ex hhd hE3)) ?_
        rintro e w4 ⟨rfl, hE4⟩
        have sz4 := Pl.Ex.size hE4
        have hS4 := Pl.Ex.trans hS3 hE4
        refine ⟨_, rfl, hS4, ?_⟩
        refine Pl.pA_call rfl rfl rfl rfl rfl (fun u X => Pl.enters Tryd.func40 (by kernel_rfl) rfl u X) ?_
        refine Calls.mono (rnumber_calls _ _ _ _ (By.ex hrs (Pl.Ex.trans hE3 hE4)) (by omega)) ?_
        rintro e w5 ⟨rfl, hE5⟩
        have sz5 := Pl.Ex.size hE5
        have hS5 := Pl.Ex.trans hS4 hE5
        refine ⟨_, rfl, hS5, ?_⟩
        refine Pl.qA_b (v := .bool true) (fun X => Pl.r_neq (Pl.n_t (by omega)) X) hS5 rfl rfl rfl rfl rfl rfl ?_
        refine Pl.qA_go hS5 rfl ?_
        refine Pl.pA_end ?_
        repeat refine Pl.V_seq ?_
        refine Pl.V_true rfl ?_
        repeat refine Pl.V_seq ?_
        refine Pl.V_region (by kernel_rfl) ?_
        refine Pl.qA_ev (.agg #[.string ⟨#[]⟩, .string ⟨#[]⟩]) trivial rfl rfl rfl rfl (fun X => by kernel_rfl) ?_
        refine Pl.qA_sw (new := [.string ⟨#[]⟩, .string ⟨#[]⟩]) (Pl.Cb.ex k_N1_0 (Pl.Ex.trans hE2 (Pl.Ex.trans hE3 (Pl.Ex.trans hE4 hE5)))) (by kernel_rfl) rfl (by simp [Value.oneCell']) rfl rfl rfl rfl rfl rfl (fun Y hY => trivial) ?_
        intro w6 hX6 k_N1_1
        have hE6 := Pl.Ex.xs (Pl.Ex.trans hE1 (Pl.Ex.trans hE2 (Pl.Ex.trans hE3 (Pl.Ex.trans hE4 hE5)))) hX6 (by omega)
        have sz6 := Pl.Xs.size hX6
        refine Pl.qA_go trivial rfl ?_
        refine Pl.pA_end ?_
        repeat refine Pl.V_seq ?_
        exact Pl.post_c2 rfl rfl rfl rfl (Pl.cellOf k_N1_1 Tryd.underlying24 rfl (by kernel_rfl)) ⟨_, _, 0, 300, rfl, OneR.sum hnn hs2, hE6⟩
end Go.Proofs.YtmioaeaobefphaaDoor
