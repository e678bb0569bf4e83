/- The document's Read. -/
import Derived.Test.YtmioaeaobefphaaDoorBam
import Derived.Test.YtmioaeaobefphaaDoorBan

namespace Go.Proofs.YtmioaeaobefphaaDoor
open Go.RowKit 
set_option linter.unusedVariables false
set_option linter.unusedSimpArgs false
set_option maxRecDepth 100000
set_option maxHeartbeats 4000000
theorem Pl.ret3 {n : Nat} {l : List (Nat × Value)} {w : World} {fn : Func} {R : Ending → World → Prop} {t t2 t3 : Tmp} {v v2 v3 : Value} {a : Act} (ha : Pl.Ag n [] a l) (hr : fn.results = #[.tmp t, .tmp t2, .tmp t3]) (hv : Pl.look l t = some v) (hv2 : Pl.look l t2 = some v2) (hv3 : Pl.look l t3 = some v3) (h : R (.returned (.tuple #[v, v2, v3])) w) : bodyPost Tryd.prog fn R .ret a w := by
  refine ⟨ha.defers, .tuple #[v, v2, v3], ?_, h⟩
  unfold results
  rw [hr]
  have e : a.tmps.getD t undef = v := by rw [Array.getD_eq_getD_getElem?, ha.look t v hv]; rfl
  have e2 : a.tmps.getD t2 undef = v2 := by rw [Array.getD_eq_getD_getElem?, ha.look t2 v2 hv2]; rfl
  have e3 : a.tmps.getD t3 undef = v3 := by rw [Array.getD_eq_getD_getElem?, ha.look t3 v3 hv3]; rfl
  simp only [List.mapM_toArray, List.mapM_cons, List.mapM_nil, e, e2, e3]
  rfl
theorem Pl.post_ret3in {n : Nat} {l : List (Nat × Value)} {w : World} {fn : Func} {R : Ending → World → Prop} {id id2 : Nat} {cs cs1 cs2 cs3 : List Code} {N : Act → World → Prop} {t t2 t3 : Tmp} {v v2 v3 : Value} (hr : fn.results = #[.tmp t, .tmp t2, .tmp t3]) (hv : Pl.look l t = some v) (hv2 : Pl.look l t2 = some v2) (hv3 : Pl.look l t3 = some v3) (h : R (.returned (.tuple #[v, v2, v3])) w) :
    Pl.V Tryd.prog (Exit.inBlock id2 (Pl.Ks Tryd.prog (Exit.then N (Pl.Ks Tryd.prog (Exit.inBlock id (Pl.Ks Tryd.prog (bodyPost Tryd.prog fn R) cs)) cs1)) cs2)) n [] (.ret :: cs3) l w := fun a ha => wp_ret (by
  refine Pl.Ks_ret (cs := cs3) ?_
  show Pl.Ks Tryd.prog (Exit.then N (Pl.Ks Tryd.prog (Exit.inBlock id (Pl.Ks Tryd.prog (bodyPost Tryd.prog fn R) cs)) cs1)) cs2 .ret a w
  refine Pl.Ks_ret ?_
  show Pl.Ks Tryd.prog (Exit.inBlock id (Pl.Ks Tryd.prog (bodyPost Tryd.prog fn R) cs)) cs1 .ret a w
  refine Pl.Ks_ret ?_
  show Pl.Ks Tryd.prog (bodyPost Tryd.prog fn R) cs .ret a w
  exact Pl.Ks_ret (Pl.ret3 ha hr hv hv2 hv3 h))
theorem rread_calls (w : World) {v : Value} {lo : Nat} {bs : T.Byt} (h : By w lo v bs) (hm : bs.length ≤ 100000000) :
    Calls Tryd.prog 15 #[v] w fun e w' => ∃ rv, e = .returned (.tuple #[rv, .int .i64 (((T.rd bs).2.1 : Nat) : Int), .int .i64 (((T.rd bs).2.2 : Nat) : Int)]) ∧ Es w' w.heap.size rv (T.rd bs).1 ∧ Pl.Ex w w' := by
  obtain ⟨A, c, rfl, hn, hc⟩ := h.sh
  refine Pl.calls_by (n := 37) (vs := [.slice A bs.length c]) Tryd.func15 rfl (by kernel_rfl) (by simp) ?_
  repeat refine Pl.V_seq ?_
  refine Pl.V_region (by kernel_rfl) ?_
  refine Pl.qA_go trivial rfl ?_
  refine Pl.pA_end ?_
  repeat refine Pl.V_seq ?_
  refine Pl.V_region (by kernel_rfl) ?_
  refine Pl.qA_bs (e := 24) (n := 0) [] rfl rfl rfl rfl (by kernel_rfl) (fun Y hY => trivial) ?_
  intro N1 w1 hE1 hN_N1 k_N1_0
  have z_N1 := Pl.Cb.lt k_N1_0
  have sz1 := Pl.Ex.size hE1
  refine Pl.qA_go trivial rfl ?_
  refine Pl.pA_end ?_
  repeat refine Pl.V_seq ?_
  refine Pl.V_region (by kernel_rfl) ?_
  refine Pl.qA_go trivial rfl ?_
  refine Pl.pA_end ?_
  repeat refine Pl.V_seq ?_
  refine Pl.V_block ?_
  repeat refine Pl.V_seq ?_
  refine Pl.V_sub [(0, .slice A bs.length c), (5, .slice (some ⟨N1, 0, none⟩) 0 0), (6, .int .i64 0)] (Pl.subl_cons rfl (Pl.subl_cons rfl (Pl.subl_cons rfl Pl.subl_nil))) ?_
  have hE0 := hE1
  have hG0 : Ge w1 w.heap.size (.slice (some ⟨N1, 0, none⟩) 0 0) [] := Pl.Gr.ofCb k_N1_0 (by omega) rfl (by unfold maxLen; omega) (fun _ _ => trivial)
  refine Pl.V_loop (fun k l' w' => ∃ q ls Ar cr, q + k = bs.length ∧ Ge w' w.heap.size (.slice Ar (List.length ls) cr) ls ∧ Pl.Ex w w' ∧ T.rd bs = (ls ++ (T.rd (bs.drop q)).1, q + (T.rd (bs.drop q)).2.1, (T.rd (bs.drop q)).2.2) ∧ ls.length ≤ q ∧ l' = [(0, .slice A bs.length c), (5, .slice Ar ls.length cr), (6, .int .i64 ((q : Nat) : Int))]) bs.length ⟨0, [], _, _, by omega, hG0, hE0, by simp, Nat.le_refl _, rfl⟩ ?_
  clear hE0 hG0
  rintro k _ X ⟨q, ls, Ar, cr, hq, hG, hX, hrd, hle, rfl⟩
  have hwX := hX.size
  by_cases hlt : q < bs.length
  · repeat refine Pl.V_seq ?_
    refine Pl.V_region (by kernel_rfl) ?_
    refine Pl.qA_go trivial rfl ?_
    refine Pl.qA_ln Tryd.underlying22 trivial rfl rfl rfl rfl rfl ?_
    refine Pl.qA_b (v := .bool true) (fun X => Pl.r_lss (decide_eq_true (by omega)) X) trivial rfl rfl rfl rfl rfl rfl ?_
    refine Pl.pA_end ?_
    repeat refine Pl.V_seq ?_
    refine Pl.V_true rfl ?_
    repeat refine Pl.V_seq ?_
    refine Pl.V_skip ?_
    repeat refine Pl.V_seq ?_
    refine Pl.V_block ?_
    have hb := By.ex h hX
    have hrs := hb.rest (l := q) (by omega)
    have hl0 : (bs.drop q).length ≠ 0 := by rw [List.length_drop]; omega
    rcases OneR.cases (bs.drop q) hl0 with ⟨x, m, ho⟩ | ⟨ec, hec, hre, hall⟩
    · repeat refine Pl.V_seq ?_
      refine Pl.V_region (by kernel_rfl) ?_
      refine Pl.qA_go trivial rfl ?_
      refine Pl.qA_sl (kl := .i64) (kh := .i64) (lo' := q) (hi' := bs.length) (s := 1) Tryd.underlying22 (by kernel_rfl) (.inr ⟨_, _, rfl, rfl, rfl⟩) (.inl ⟨rfl, rfl, by omega⟩) (by omega) (by omega) trivial rfl rfl rfl rfl rfl ?_
      refine Pl.pA_call rfl rfl rfl rfl rfl (fun u X => Pl.enters Tryd.func30 (by kernel_rfl) rfl u X) ?_
      refine Calls.mono (one_calls _ (By.ex hrs (Pl.Ex.refl _))) ?_
      rintro e w1 ⟨n1, t1, k1, c1, rfl, hon, hE1⟩
      obtain ⟨rfl, rfl, rfl, rfl⟩ := OneR.of_some ho hon
      obtain ⟨hm0, hml⟩ := one_pos ho
      rw [List.length_drop] at hml
      have sz1 := Pl.Ex.size hE1
      refine ⟨_, rfl, trivial, ?_⟩
      refine Pl.qA_go trivial rfl ?_
      refine Pl.qA_al (z := .agg #[.string ⟨#[]⟩, .string ⟨#[]⟩]) (by kernel_rfl) rfl rfl rfl rfl (fun Y hY => trivial) ?_
      intro N2 w2 hE2 hN_N2 k_N2_0
      have z_N2 := Pl.Cb.lt k_N2_0
      have sz2 := Pl.Ex.size hE2
      replace k_N2_0 : Pl.Cb w2 N2 24 [.string ⟨#[]⟩, .string ⟨#[]⟩] := k_N2_0
      refine Pl.qA_sw (new := [.string (mkS x.1), .string (mkS x.2)]) k_N2_0 (by kernel_rfl) rfl (by simp [Value.oneCell']) rfl rfl rfl rfl rfl rfl (fun Y hY => trivial) ?_
      intro w3 hX3 k_N2_1
      have hE3 := Pl.Ex.xs hE2 hX3 (by omega)
      have sz3 := Pl.Xs.size hX3
      refine Pl.qA_go trivial rfl ?_
      refine Pl.pA_end ?_
      repeat refine Pl.V_seq ?_
      refine Pl.V_region (by kernel_rfl) ?_
      refine Pl.qA_go trivial rfl ?_
      refine Pl.qA_b (v := .bool false) (fun X => Pl.r_neq (Pl.n_f (by omega)) X) trivial rfl rfl rfl rfl rfl rfl ?_
      refine Pl.pA_end ?_
      repeat refine Pl.V_seq ?_
      refine Pl.V_false rfl ?_
      repeat refine Pl.V_seq ?_
      refine Pl.V_skip ?_
      repeat refine Pl.V_seq ?_
      refine Pl.V_region (by kernel_rfl) ?_
      refine Pl.qA_go trivial rfl ?_
      refine Pl.qA_lrw (part := [.string (mkS x.1), .string (mkS x.2)]) k_N2_1 rfl Tryd.underlying24 rfl (by kernel_rfl) trivial rfl rfl rfl rfl rfl ?_
      refine Pl.qA_bs (e := 24) (n := 1) [.string (mkS x.1), .string (mkS x.2)] rfl rfl rfl rfl (by kernel_rfl) (fun Y hY => trivial) ?_
      intro N3 w4 hE4 hN_N3 k_N3_0
      have z_N3 := Pl.Cb.lt k_N3_0
      have sz4 := Pl.Ex.size hE4
      have hsrc : Src Tryd.prog 2 29 (.slice (some ⟨N3, 0, none⟩) 1 1) 1 [.string (mkS x.1), .string (mkS x.2)] w4 := Pl.Sl.src (Pl.Sl.ofCb (s := 2) k_N3_0 (by omega)) rfl Tryd.underlying29 (by simp [Value.oneCell']) (by decide)
      have hGb := Pl.Gr.ex hG (Pl.Ex.trans hE1 (Pl.Ex.trans hE3 hE4))
      refine Pl.qA_gr (e := 24) (bytes := 32) (z := .agg #[.string ⟨#[]⟩, .string ⟨#[]⟩]) (tx := 29) (news := [.string (mkS x.1), .string (mkS x.2)]) hGb hsrc Tryd.underlying29 (by kernel_rfl) rfl (fun _ _ => trivial) (fun _ _ => trivial) (by omega) (by decide) (by omega) rfl rfl rfl rfl rfl rfl (fun _ _ => trivial) ?_
      intro v7 w7 hG7 hgr
      have hE7 := Pl.Ex.grown (Pl.Ex.trans hX (Pl.Ex.trans hE1 (Pl.Ex.trans hE3 hE4))) hgr (fun k hk => (Pl.Gr.lies hGb k hk).1)
      obtain ⟨A7, c7, rfl, hc7⟩ := Pl.Gr.shp hG7
      have hG8 : Ge w7 w.heap.size (.slice A7 (ls ++ [x]).length c7) (ls ++ [x]) := by unfold Ge; rw [cE_snoc, List.length_append]; exact hG7
      refine Pl.qA_go trivial rfl ?_
      refine Pl.pA_end ?_
      repeat refine Pl.V_seq ?_
      refine Pl.V_region (by kernel_rfl) ?_
      refine Pl.qA_go trivial rfl ?_
      refine Pl.qA_b (v := .int .i64 (((q + m) : Nat) : Int)) (fun X => Pl.r_add (Pl.a64 (a := q) (b := m) rfl rfl (by omega)) X) trivial rfl rfl rfl rfl rfl rfl ?_
      refine Pl.qA_go trivial rfl ?_
      refine Pl.pA_end ?_
      repeat refine Pl.V_seq ?_
      refine Pl.V_endblock ?_
      refine Pl.V_again [(0, .slice A bs.length c), (5, .slice A7 (ls.length + 1) c7), (6, .int .i64 (((q + m) : Nat) : Int))] (Pl.subl_cons rfl (Pl.subl_cons rfl (Pl.subl_cons rfl Pl.subl_nil))) (k' := bs.length - (q + m)) (by omega) ⟨q + m, ls ++ [x], A7, c7, by omega, hG8, hE7, rd_on hrd ho, by rw [List.length_append]; simp; omega, by rw [List.length_append]; rfl⟩
    · repeat refine Pl.V_seq ?_
      refine Pl.V_region (by kernel_rfl) ?_
      refine Pl.qA_go trivial rfl ?_
      refine Pl.qA_sl (kl := .i64) (kh := .i64) (lo' := q) (hi' := bs.length) (s := 1) Tryd.underlying22 (by kernel_rfl) (.inr ⟨_, _, rfl, rfl, rfl⟩) (.inl ⟨rfl, rfl, by omega⟩) (by omega) (by omega) trivial rfl rfl rfl rfl rfl ?_
      refine Pl.pA_call rfl rfl rfl rfl rfl (fun u X => Pl.enters Tryd.func30 (by kernel_rfl) rfl u X) ?_
      refine Calls.mono (one_calls _ (By.ex hrs (Pl.Ex.refl _))) ?_
      rintro e w1 ⟨n1, t1, k1, c1, rfl, hon, hE1⟩
      obtain ⟨rfl, rfl⟩ := hall _ _ _ _ hon
      have sz1 := Pl.Ex.size hE1
      refine ⟨_, rfl, trivial, ?_⟩
      refine Pl.qA_go trivial rfl ?_
      refine Pl.qA_al (z := .agg #[.string ⟨#[]⟩, .string ⟨#[]⟩]) (by kernel_rfl) rfl rfl rfl rfl (fun Y hY => trivial) ?_
      intro N2 w2 hE2 hN_N2 k_N2_0
      have z_N2 := Pl.Cb.lt k_N2_0
      have sz2 := Pl.Ex.size hE2
      replace k_N2_0 : Pl.Cb w2 N2 24 [.string ⟨#[]⟩, .string ⟨#[]⟩] := k_N2_0
      refine Pl.qA_sw (new := [.string n1, .string t1]) k_N2_0 (by kernel_rfl) rfl (by simp [Value.oneCell']) rfl rfl rfl rfl rfl rfl (fun Y hY => trivial) ?_
      intro w3 hX3 k_N2_1
      have hE3 := Pl.Ex.xs hE2 hX3 (by omega)
      have sz3 := Pl.Xs.size hX3
      refine Pl.qA_go trivial rfl ?_
      refine Pl.pA_end ?_
      repeat refine Pl.V_seq ?_
      refine Pl.V_region (by kernel_rfl) ?_
      refine Pl.qA_go trivial rfl ?_
      refine Pl.qA_b (v := .bool true) (fun X => Pl.r_neq (Pl.n_t (by omega)) X) trivial rfl rfl rfl rfl rfl rfl ?_
      refine Pl.pA_end ?_
      repeat refine Pl.V_seq ?_
      refine Pl.V_true rfl ?_
      repeat refine Pl.V_seq ?_
      refine Pl.V_region (by kernel_rfl) ?_
      refine Pl.qA_go trivial rfl ?_
      refine Pl.pA_end ?_
      repeat refine Pl.V_seq ?_
      rw [hre] at hrd
      simp only [List.append_nil, Nat.add_zero] at hrd
      exact Pl.post_ret3in rfl rfl rfl rfl ⟨.slice Ar ls.length cr, by (simp only [hrd]) <;> rfl, by rw [hrd]; exact (Pl.Sl.ex (Pl.Gr.sl (n := ls.length) hG (by omega)) (Pl.Ex.trans hE1 hE3) : Pl.Sl _ _ _ ls.length (cE ls)), Pl.Ex.trans hX (Pl.Ex.trans hE1 hE3)⟩
  · repeat refine Pl.V_seq ?_
    refine Pl.V_region (by kernel_rfl) ?_
    refine Pl.qA_go trivial rfl ?_
    refine Pl.qA_ln Tryd.underlying22 trivial rfl rfl rfl rfl rfl ?_
    refine Pl.qA_b (v := .bool false) (fun X => Pl.r_lss (decide_eq_false (by omega)) X) trivial rfl rfl rfl rfl rfl rfl ?_
    refine Pl.pA_end ?_
    repeat refine Pl.V_seq ?_
    refine Pl.V_false rfl ?_
    repeat refine Pl.V_seq ?_
    refine Pl.V_exit ?_
    obtain rfl : q = bs.length := by omega
    rw [List.drop_length, T.rd_nil] at hrd
    simp only [List.append_nil, Nat.add_zero] at hrd
    repeat refine Pl.V_seq ?_
    refine Pl.V_region (by kernel_rfl) ?_
    refine Pl.qA_go trivial rfl ?_
    refine Pl.pA_end ?_
    repeat refine Pl.V_seq ?_
    exact Pl.post_ret3 rfl rfl rfl rfl ⟨.slice Ar ls.length cr, by (simp only [hrd]) <;> rfl, by rw [hrd]; exact (Pl.Gr.sl (n := ls.length) hG (by omega) : Pl.Sl _ _ _ ls.length (cE ls)), hX⟩
end Go.Proofs.YtmioaeaobefphaaDoor
/- What is mended; entries that are the same. -/
namespace Go.Proofs.YtmioaeaobefphaaDoor
open Go.RowKit 
set_option linter.unusedVariables false
set_option linter.unusedSimpArgs false
set_option maxRecDepth 100000
set_option maxHeartbeats 4000000
theorem mkS_list (a : T.Byt) : (mkS a).toList = a := by rw [ByteArray.toList_eq]; rfl
theorem mkS_inj {a b : T.Byt} (h : mkS a = mkS b) : a = b := by rw [← mkS_list a, ← mkS_list b, h]
theorem neqE (a b : T.Ent) {x y : Operand} (X : World) : Pl.Bn Tryd.prog .neq 24 x y (.agg #[.string (mkS a.1), .string (mkS a.2)]) (.agg #[.string (mkS b.1), .string (mkS b.2)]) X = .ok (.bool (!decide (a = b))) X := by
  unfold Pl.Bn
  go_simp
  rw [mkS_list, mkS_list, mkS_list, mkS_list]
  obtain ⟨a1, a2⟩ := a
  obtain ⟨b1, b2⟩ := b
  by_cases h1 : a1 = b1 <;> by_cases h2 : a2 = b2 <;> simp [h1, h2]
theorem repair_calls (w : World) {v : Value} {lo : Nat} {bs : T.Byt} (h : By w lo v bs) (hg : Gl w) (hm : bs.length ≤ 100000000) :
    Calls Tryd.prog 19 #[v] w fun e w' => ∃ v', e = .returned v' ∧ Gy w' w.heap.size v' (bs.take (T.rd bs).2.1) ∧ Pl.Ex w w' := by
  obtain ⟨A, c, rfl, hn, hc⟩ := h.sh
  have hle := (T.rd_spec bs).2.1
  refine Pl.calls_by (n := 16) (vs := [.slice A bs.length c]) Tryd.func19 rfl (by kernel_rfl) (by simp) ?_
  repeat refine Pl.V_seq ?_
  refine Pl.V_region (by kernel_rfl) ?_
  refine Pl.qA_go trivial rfl ?_
  refine Pl.pA_end ?_
  repeat refine Pl.V_seq ?_
  refine Pl.V_region (by kernel_rfl) ?_
  refine Pl.qA_go trivial rfl ?_
  refine Pl.pA_call rfl rfl rfl rfl rfl (fun u X => Pl.enters Tryd.func14 (by kernel_rfl) rfl u X) ?_
  refine Calls.mono (read_calls _ (By.ex h (Pl.Ex.refl _)) (hg.ex (Pl.Ex.refl _)) hm) ?_
  rintro e w1 ⟨rv, rfl, -, hE1⟩
  generalize hk : (T.rd bs).2.1 = k at *
  have sz1 := Pl.Ex.size hE1
  refine ⟨_, rfl, trivial, ?_⟩
  refine Pl.qA_go trivial rfl ?_
  refine Pl.pA_end ?_
  repeat refine Pl.V_seq ?_
  refine Pl.V_region (by kernel_rfl) ?_
  refine Pl.qA_go trivial rfl ?_
  refine Pl.qA_sl (kl := .i64) (kh := .i64) (lo' := 0) (hi' := k) (s := 1) Tryd.underlying22 (by kernel_rfl) (.inl ⟨rfl, rfl⟩) (.inr ⟨_, _, rfl, rfl, rfl⟩) (by omega) (by omega) trivial rfl rfl rfl rfl rfl ?_
  rw [cutA_zero]
  refine Pl.pA_call rfl rfl rfl rfl rfl (fun u X => Pl.enters Tryd.func31 (by kernel_rfl) rfl u X) ?_
  refine Calls.mono (clone_calls _ (By.head (By.ex h hE1) (k := k) (by omega)) (by rw [List.length_take]; omega)) ?_
  rintro e w2 ⟨v2, rfl, hG2, hE2⟩
  have sz2 := Pl.Ex.size hE2
  refine ⟨_, rfl, trivial, ?_⟩
  refine Pl.qA_go trivial rfl ?_
  refine Pl.pA_end ?_
  repeat refine Pl.V_seq ?_
  have hw := Pl.Ex.size hE1
  exact Pl.post_ret rfl rfl ⟨_, rfl, Pl.Gr.mono hG2 (by omega), (Pl.Ex.trans hE1 hE2)⟩
theorem rrepair_calls (w : World) {v : Value} {lo : Nat} {bs : T.Byt} (h : By w lo v bs) (hm : bs.length ≤ 100000000) :
    Calls Tryd.prog 20 #[v] w fun e w' => ∃ v', e = .returned v' ∧ By w' lo v' (bs.take (T.rd bs).2.1) ∧ Pl.Ex w w' := by
  obtain ⟨A, c, rfl, hn, hc⟩ := h.sh
  have hle := (T.rd_spec bs).2.1
  refine Pl.calls_by (n := 15) (vs := [.slice A bs.length c]) Tryd.func20 rfl (by kernel_rfl) (by simp) ?_
  repeat refine Pl.V_seq ?_
  refine Pl.V_region (by kernel_rfl) ?_
  refine Pl.qA_go trivial rfl ?_
  refine Pl.pA_end ?_
  repeat refine Pl.V_seq ?_
  refine Pl.V_region (by kernel_rfl) ?_
  refine Pl.qA_go trivial rfl ?_
  refine Pl.pA_call rfl rfl rfl rfl rfl (fun u X => Pl.enters Tryd.func15 (by kernel_rfl) rfl u X) ?_
  refine Calls.mono (rread_calls _ (By.ex h (Pl.Ex.refl _)) hm) ?_
  rintro e w1 ⟨rv, rfl, -, hE1⟩
  generalize hk : (T.rd bs).2.1 = k at *
  have sz1 := Pl.Ex.size hE1
  refine ⟨_, rfl, trivial, ?_⟩
  refine Pl.qA_go trivial rfl ?_
  refine Pl.pA_end ?_
  repeat refine Pl.V_seq ?_
  refine Pl.V_region (by kernel_rfl) ?_
  refine Pl.qA_go trivial rfl ?_
  refine Pl.qA_sl (kl := .i64) (kh := .i64) (lo' := 0) (hi' := k) (s := 1) Tryd.underlying22 (by kernel_rfl) (.inl ⟨rfl, rfl⟩) (.inr ⟨_, _, rfl, rfl, rfl⟩) (by omega) (by omega) trivial rfl rfl rfl rfl rfl ?_
  rw [cutA_zero]
  refine Pl.qA_go trivial rfl ?_
  refine Pl.pA_end ?_
  repeat refine Pl.V_seq ?_
  exact Pl.post_ret rfl rfl ⟨_, rfl, By.head (By.ex h hE1) (k := k) (by omega), hE1⟩
end Go.Proofs.YtmioaeaobefphaaDoor
/- Entries that are the same. -/
namespace Go.Proofs.YtmioaeaobefphaaDoor
open Go.RowKit 
set_option linter.unusedVariables false
set_option linter.unusedSimpArgs false
set_option maxRecDepth 100000
set_option maxHeartbeats 4000000
theorem neqE_t {a b : T.Ent} (h : a ≠ b) {x y : Operand} (X : World) : Pl.Bn Tryd.prog .neq 24 x y (.agg #[.string (mkS a.1), .string (mkS a.2)]) (.agg #[.string (mkS b.1), .string (mkS b.2)]) X = .ok (.bool true) X := by rw [neqE, decide_eq_false h]; rfl
theorem neqE_f {a b : T.Ent} (h : a = b) {x y : Operand} (X : World) : Pl.Bn Tryd.prog .neq 24 x y (.agg #[.string (mkS a.1), .string (mkS a.2)]) (.agg #[.string (mkS b.1), .string (mkS b.2)]) X = .ok (.bool false) X := by rw [neqE, decide_eq_true h]; rfl
theorem cE_at : ∀ (l : List T.Ent) (j : Nat) (h : j < l.length), (cE l)[j * 2]? = some (.string (mkS l[j].1)) ∧ (cE l)[j * 2 + 1]? = some (.string (mkS l[j].2))
  | x :: l, 0, h => ⟨rfl, rfl⟩
  | x :: l, j + 1, h => by
    have := cE_at l j (by simpa using h)
    have e : cE (x :: l) = .string (mkS x.1) :: .string (mkS x.2) :: cE l := rfl
    rw [e, show (j + 1) * 2 = j * 2 + 1 + 1 by omega, List.getElem?_cons_succ, List.getElem?_cons_succ, List.getElem?_cons_succ, List.getElem?_cons_succ]
    exact this
theorem add_add (ad : Addr) (i j : Nat) : (ad.add i).add j = ad.add (i + j) := by
  unfold Addr.add
  by_cases hi : i = 0 <;> by_cases hj : j = 0 <;> simp [hi, hj, Nat.add_assoc]
/-- An entry of them. -/
theorem Es.ex {w w' : World} {lo : Nat} {v : Value} {l : List T.Ent} (h : Es w lo v l) (k : Pl.Ex w w') : Es w' lo v l := Pl.Sl.ex h k
theorem Es.sh {w : World} {lo : Nat} {v : Value} {l : List T.Ent} (h : Es w lo v l) : ∃ A c, v = .slice A l.length c ∧ l.length ≤ c ∧ c ≤ 9223372036854775807 := Pl.Sl.sh h
theorem Es.load {w : World} {lo n c : Nat} {A : Option Addr} {l : List T.Ent} (h : Es w lo (.slice A n c) l) {j : Nat} (hj : j < l.length) :
    ∃ ad, A = some ad ∧ ∀ X, Pl.Ex w X → (Instr.loadAt 24 (.pointer (some (ad.add (j * 2))))).run Tryd.prog X = .ok (.agg #[.string (mkS l[j].1), .string (mkS l[j].2)]) X := by
  obtain ⟨h1, h2⟩ := cE_at l j hj
  obtain ⟨A', c', e, h3, h4, h5⟩ := id h
  cases e
  obtain ⟨ad, rfl, _, _, hc⟩ := h5 (by rw [cE_len]; omega)
  refine ⟨ad, rfl, fun X hX => ?_⟩
  have hS := Pl.Sl.ex h hX
  obtain ⟨A', c', e, h3, h4, h5⟩ := hS
  cases e
  obtain ⟨ad2, e, _, _, hc⟩ := h5 (by rw [cE_len]; omega)
  cases e
  have hl : (loadCells (ad.add (j * 2)) 2).run Tryd.prog X = .ok #[.string (mkS l[j].1), .string (mkS l[j].2)] X := by
    have := run_loadCells_list (P := Tryd.prog) X (ad.add (j * 2)) [.string (mkS l[j].1), .string (mkS l[j].2)] (fun i v hi => by
      rw [add_add]
      rcases i with _ | _ | i
      · cases hi; exact hc _ _ h1
      · cases hi; exact hc _ _ h2
      · cases hi)
    simpa using this
  have hsz : (Tryd.prog.info? 24).map (·.size) = some 2 := by kernel_rfl
  obtain ⟨inf, hi0, hz⟩ := Option.map_eq_some_iff.1 hsz
  simp [Instr.loadAt, Instr.sureAddr, loadVar, isAgg, run_underlying Tryd.underlying24, sizeOf, typeInfo, hi0, hz, Sem.run_bind, hl, Result.andThen]
theorem Pl.post_ret1in {n : Nat} {l : List (Nat × Value)} {w : World} {fn : Func} {R : Ending → World → Prop} {id id2 : Nat} {cs cs1 cs2 cs3 : List Code} {N : Act → World → Prop} {t : Tmp} {v : Value} (hr : fn.results = #[.tmp t]) (hv : Pl.look l t = some v) (h : R (.returned v) w) :
    Pl.V Tryd.prog (Exit.inBlock id2 (Pl.Ks Tryd.prog (Exit.then N (Pl.Ks Tryd.prog (Exit.inBlock id (Pl.Ks Tryd.prog (bodyPost Tryd.prog fn R) cs)) cs1)) cs2)) n [] (.ret :: cs3) l w := fun a ha => wp_ret (by
  refine Pl.Ks_ret (cs := cs3) ?_
  show Pl.Ks Tryd.prog (Exit.then N (Pl.Ks Tryd.prog (Exit.inBlock id (Pl.Ks Tryd.prog (bodyPost Tryd.prog fn R) cs)) cs1)) cs2 .ret a w
  refine Pl.Ks_ret ?_
  show Pl.Ks Tryd.prog (Exit.inBlock id (Pl.Ks Tryd.prog (bodyPost Tryd.prog fn R) cs)) cs1 .ret a w
  refine Pl.Ks_ret ?_
  show Pl.Ks Tryd.prog (bodyPost Tryd.prog fn R) cs .ret a w
  exact Pl.Ks_ret (Pl.at_ret1 ha hr hv h))
theorem same_calls (w : World) {v u : Value} {lo lo2 : Nat} {a b : List T.Ent} (ha : Es w lo v a) (hb : Es w lo2 u b) :
    Calls Tryd.prog 16 #[v, u] w fun e w' => e = .returned (.bool (decide (a = b))) ∧ Pl.Ex w w' := by
  obtain ⟨A, c, rfl, hn, hc⟩ := ha.sh
  obtain ⟨A2, c2, rfl, hn2, hc2⟩ := hb.sh
  refine Pl.calls_by (n := 26) (vs := [.slice A a.length c, .slice A2 b.length c2]) Tryd.func16 rfl (by kernel_rfl) (by simp) ?_
  repeat refine Pl.V_seq ?_
  refine Pl.V_region (by kernel_rfl) ?_
  refine Pl.qA_go trivial rfl ?_
  refine Pl.pA_end ?_
  by_cases hne : a.length = b.length
  · repeat refine Pl.V_seq ?_
    refine Pl.V_region (by kernel_rfl) ?_
    refine Pl.qA_go trivial rfl ?_
    refine Pl.qA_ln Tryd.underlying29 trivial rfl rfl rfl rfl rfl ?_
    refine Pl.qA_go trivial rfl ?_
    refine Pl.qA_ln Tryd.underlying29 trivial rfl rfl rfl rfl rfl ?_
    refine Pl.qA_b (v := .bool false) (fun X => Pl.r_neq (Pl.n_f (by omega)) X) trivial rfl rfl rfl rfl rfl rfl ?_
    refine Pl.pA_end ?_
    repeat refine Pl.V_seq ?_
    refine Pl.V_false rfl ?_
    repeat refine Pl.V_seq ?_
    refine Pl.V_skip ?_
    repeat refine Pl.V_seq ?_
    refine Pl.V_region (by kernel_rfl) ?_
    refine Pl.qA_go trivial rfl ?_
    refine Pl.pA_end ?_
    repeat refine Pl.V_seq ?_
    refine Pl.V_block ?_
    repeat refine Pl.V_seq ?_
    refine Pl.V_sub [(0, .slice A a.length c), (1, .slice A2 b.length c2), (5, .int .i64 0)] (Pl.subl_cons rfl (Pl.subl_cons rfl (Pl.subl_cons rfl Pl.subl_nil))) ?_
    refine Pl.V_loop (fun k l' w' => ∃ q, q + k = a.length ∧ Pl.Ex w w' ∧ (∀ j, (h : j < q) → (h1 : j < a.length) → (h2 : j < b.length) → a[j] = b[j]) ∧ l' = [(0, .slice A a.length c), (1, .slice A2 b.length c2), (5, .int .i64 ((q : Nat) : Int))]) a.length ⟨0, by omega, Pl.Ex.refl _, fun j h => absurd h (Nat.not_lt_zero j), rfl⟩ ?_
    rintro k _ Z ⟨q, hq, hX, hsame, rfl⟩
    by_cases hlt : q < a.length
    · repeat refine Pl.V_seq ?_
      refine Pl.V_region (by kernel_rfl) ?_
      refine Pl.qA_go trivial rfl ?_
      refine Pl.qA_ln Tryd.underlying29 trivial rfl rfl rfl rfl rfl ?_
      refine Pl.qA_b (v := .bool true) (fun X => Pl.r_lss (decide_eq_true (by omega)) X) trivial rfl rfl rfl rfl rfl rfl ?_
      refine Pl.pA_end ?_
      repeat refine Pl.V_seq ?_
      refine Pl.V_true rfl ?_
      repeat refine Pl.V_seq ?_
      refine Pl.V_skip ?_
      repeat refine Pl.V_seq ?_
      refine Pl.V_block ?_
      have hlt2 : q < b.length := by omega
      obtain ⟨ad, rfl, hla⟩ := (ha.ex hX).load hlt
      obtain ⟨ad2, rfl, hlb⟩ := (hb.ex hX).load hlt2
      by_cases he : a[q] = b[q]
      · repeat refine Pl.V_seq ?_
        refine Pl.V_draw (S := fun X => Pl.Ex Z X) [(true, 0, 0), (true, 1, 1), (true, 2, 3), (true, 3, 7), (true, 4, 15), (true, 5, 31), (true, 6, 63), (true, 7, 127), (true, 8, 255)] fo (by repeat first | exact Pl.post_panic | refine Pl.pn_block ?_ | refine Pl.pn_then ?_ | refine Pl.pn_ks ?_) (by kernel_rfl) (Pl.Ex.trans (Pl.Ex.refl _) (Pl.Ex.drew _)) ?_
        have hE1 := Pl.Ex.drew Z
        generalize Z.drew = w1 at *
        have sz1 := Pl.Ex.size hE1
        intro hS1
        refine Pl.qA_go hS1 rfl ?_
        refine Pl.qA_ix (s := 2) (j := q) Tryd.underlying29 (by kernel_rfl) rfl (by omega) hS1 rfl rfl rfl rfl rfl rfl ?_
        refine Pl.qA_load hS1 rfl rfl rfl rfl rfl (fun Y hY => hla Y hY) ?_
        refine Pl.qA_go hS1 rfl ?_
        refine Pl.qA_ix (s := 2) (j := q) Tryd.underlying29 (by kernel_rfl) rfl (by omega) hS1 rfl rfl rfl rfl rfl rfl ?_
        refine Pl.qA_load hS1 rfl rfl rfl rfl rfl (fun Y hY => hlb Y hY) ?_
        refine Pl.qA_b (v := .bool false) (fun X => neqE_f he X) hS1 rfl rfl rfl rfl rfl rfl ?_
        refine Pl.pA_end ?_
        repeat refine Pl.V_seq ?_
        refine Pl.V_false rfl ?_
        repeat refine Pl.V_seq ?_
        refine Pl.V_skip ?_
        repeat refine Pl.V_seq ?_
        refine Pl.V_endblock ?_
        repeat refine Pl.V_seq ?_
        refine Pl.V_region (by kernel_rfl) ?_
        refine Pl.qA_go trivial rfl ?_
        refine Pl.qA_b (v := .int .i64 (((q + 1) : Nat) : Int)) (fun X => Pl.r_add (Pl.a64 (a := q) (b := 1) rfl rfl (by omega)) X) trivial rfl rfl rfl rfl rfl rfl ?_
        refine Pl.qA_go trivial rfl ?_
        refine Pl.pA_end ?_
        refine Pl.V_again [(0, .slice (some ad) a.length c), (1, .slice (some ad2) b.length c2), (5, .int .i64 (((q + 1) : Nat) : Int))] (Pl.subl_cons rfl (Pl.subl_cons rfl (Pl.subl_cons rfl Pl.subl_nil))) (k' := k - 1) (by omega) ⟨q + 1, by omega, Pl.Ex.trans hX hE1, fun j h1 h2 h3 => ?_, rfl⟩
        rcases Nat.lt_or_ge j q with hj | hj
        · exact hsame j hj h2 h3
        · obtain rfl : j = q := by omega
          exact he
      · repeat refine Pl.V_seq ?_
        refine Pl.V_draw (S := fun X => Pl.Ex Z X) [(true, 0, 0), (true, 1, 1), (true, 2, 3), (true, 3, 7), (true, 4, 15), (true, 5, 31), (true, 6, 63), (true, 7, 127), (true, 8, 255)] fo (by repeat first | exact Pl.post_panic | refine Pl.pn_block ?_ | refine Pl.pn_then ?_ | refine Pl.pn_ks ?_) (by kernel_rfl) (Pl.Ex.trans (Pl.Ex.refl _) (Pl.Ex.drew _)) ?_
        have hE1 := Pl.Ex.drew Z
        generalize Z.drew = w1 at *
        have sz1 := Pl.Ex.size hE1
        intro hS1
        refine Pl.qA_go hS1 rfl ?_
        refine Pl.qA_ix (s := 2) (j := q) Tryd.underlying29 (by kernel_rfl) rfl (by omega) hS1 rfl rfl rfl rfl rfl rfl ?_
        refine Pl.qA_load hS1 rfl rfl rfl rfl rfl (fun Y hY => hla Y hY) ?_
        refine Pl.qA_go hS1 rfl ?_
        refine Pl.qA_ix (s := 2) (j := q) Tryd.underlying29 (by kernel_rfl) rfl (by omega) hS1 rfl rfl rfl rfl rfl rfl ?_
        refine Pl.qA_load hS1 rfl rfl rfl rfl rfl (fun Y hY => hlb Y hY) ?_
        refine Pl.qA_b (v := .bool true) (fun X => neqE_t he X) hS1 rfl rfl rfl rfl rfl rfl ?_
        refine Pl.pA_end ?_
        repeat refine Pl.V_seq ?_
        refine Pl.V_true rfl ?_
        repeat refine Pl.V_seq ?_
        refine Pl.V_region (by kernel_rfl) ?_
        refine Pl.qA_go trivial rfl ?_
        refine Pl.pA_end ?_
        repeat refine Pl.V_seq ?_
        exact Pl.post_ret1in rfl rfl ⟨by rw [decide_eq_false (fun e => he (by subst e; rfl))], Pl.Ex.trans hX hE1⟩
    · repeat refine Pl.V_seq ?_
      refine Pl.V_region (by kernel_rfl) ?_
      refine Pl.qA_go trivial rfl ?_
      refine Pl.qA_ln Tryd.underlying29 trivial rfl rfl rfl rfl rfl ?_
      refine Pl.qA_b (v := .bool false) (fun X => Pl.r_lss (decide_eq_false (by omega)) X) trivial rfl rfl rfl rfl rfl rfl ?_
      refine Pl.pA_end ?_
      repeat refine Pl.V_seq ?_
      refine Pl.V_false rfl ?_
      repeat refine Pl.V_seq ?_
      refine Pl.V_exit ?_
      repeat refine Pl.V_seq ?_
      refine Pl.V_region (by kernel_rfl) ?_
      refine Pl.qA_go trivial rfl ?_
      refine Pl.pA_end ?_
      repeat refine Pl.V_seq ?_
      exact Pl.post_ret rfl rfl ⟨by rw [decide_eq_true (List.ext_getElem hne fun j h1 h2 => hsame j (by omega) h1 h2)], hX⟩
  · repeat refine Pl.V_seq ?_
    refine Pl.V_region (by kernel_rfl) ?_
    refine Pl.qA_go trivial rfl ?_
    refine Pl.qA_ln Tryd.underlying29 trivial rfl rfl rfl rfl rfl ?_
    refine Pl.qA_go trivial rfl ?_
    refine Pl.qA_ln Tryd.underlying29 trivial rfl rfl rfl rfl rfl ?_
    refine Pl.qA_b (v := .bool true) (fun X => Pl.r_neq (Pl.n_t (by omega)) X) trivial rfl rfl rfl rfl rfl rfl ?_
    refine Pl.pA_end ?_
    repeat refine Pl.V_seq ?_
    refine Pl.V_true rfl ?_
    repeat refine Pl.V_seq ?_
    refine Pl.V_region (by kernel_rfl) ?_
    refine Pl.qA_go trivial rfl ?_
    refine Pl.pA_end ?_
    repeat refine Pl.V_seq ?_
    exact Pl.post_ret rfl rfl ⟨by rw [decide_eq_false (fun e => hne (by rw [e]))], Pl.Ex.refl _⟩
end Go.Proofs.YtmioaeaobefphaaDoor
/- What is written. -/
namespace Go.Proofs.YtmioaeaobefphaaDoor
open Go.RowKit 
set_option linter.unusedVariables false
set_option linter.unusedSimpArgs false
set_option maxRecDepth 100000
set_option maxHeartbeats 4000000
theorem recs_snoc (l : List T.Ent) {q : Nat} (h : q < l.length) : T.recs (l.take (q + 1)) = T.recs (l.take q) ++ T.recd l[q] := by
  rw [List.take_add_one, List.getElem?_eq_getElem h]
  show T.recs (l.take q ++ [l[q]]) = _
  rw [T.recs_append]
  simp [T.recs]
theorem recs_take_le (l : List T.Ent) (q : Nat) : (T.recs (l.take q)).length ≤ (T.recs l).length := by
  have : T.recs l = T.recs (l.take q) ++ T.recs (l.drop q) := by rw [← T.recs_append, List.take_append_drop]
  rw [this, List.length_append]; omega
theorem written_calls (w : World) {v : Value} {lo : Nat} {l : List T.Ent} (hl : Es w lo v l) (hm : ∀ e ∈ l, T.May e) (hg : Gl w) (hb : (T.recs l).length ≤ 10000000) :
    Calls Tryd.prog 22 #[v] w fun e w' => ∃ v', e = .returned (.tuple #[v', .bool true]) ∧ Gy w' w.heap.size v' (T.recs l) ∧ Pl.Ex w w' := by
  obtain ⟨A, c, rfl, hn, hc⟩ := hl.sh
  refine Pl.calls_by (n := 29) (vs := [.slice A l.length c]) Tryd.func22 rfl (by kernel_rfl) (by simp) ?_
  repeat refine Pl.V_seq ?_
  refine Pl.V_region (by kernel_rfl) ?_
  refine Pl.qA_go trivial rfl ?_
  refine Pl.pA_end ?_
  repeat refine Pl.V_seq ?_
  refine Pl.V_region (by kernel_rfl) ?_
  refine Pl.qA_bs (e := 5) (n := 0) [] rfl rfl rfl rfl (by kernel_rfl) (fun Y hY => trivial) ?_
  intro N1 w1 hE1 hN_N1 k_N1_0
  have z_N1 := Pl.Cb.lt k_N1_0
  have sz1 := Pl.Ex.size hE1
  refine Pl.qA_go trivial rfl ?_
  refine Pl.pA_end ?_
  repeat refine Pl.V_seq ?_
  refine Pl.V_region (by kernel_rfl) ?_
  refine Pl.qA_go trivial rfl ?_
  refine Pl.pA_end ?_
  repeat refine Pl.V_seq ?_
  refine Pl.V_block ?_
  repeat refine Pl.V_seq ?_
  refine Pl.V_sub [(0, .slice A l.length c), (4, .slice (some ⟨N1, 0, none⟩) 0 0), (5, .int .i64 0)] (Pl.subl_cons rfl (Pl.subl_cons rfl (Pl.subl_cons rfl Pl.subl_nil))) ?_
  have hE0 := hE1
  have hG0 : Gy w1 w.heap.size (.slice (some ⟨N1, 0, none⟩) 0 0) [] := Gy.nilCb k_N1_0 (by omega)
  refine Pl.V_loop (fun k l' w' => ∃ q v4, q + k = l.length ∧ Gy w' w.heap.size v4 (T.recs (l.take q)) ∧ Pl.Ex w w' ∧ l' = [(0, .slice A l.length c), (4, v4), (5, .int .i64 ((q : Nat) : Int))]) l.length ⟨0, _, by omega, hG0, hE0, rfl⟩ ?_
  clear hE0 hG0
  rintro k _ Z ⟨q, v4, hq, hG, hX, rfl⟩
  by_cases hlt : q < l.length
  · repeat refine Pl.V_seq ?_
    refine Pl.V_region (by kernel_rfl) ?_
    refine Pl.qA_go trivial rfl ?_
    refine Pl.qA_ln Tryd.underlying29 trivial rfl rfl rfl rfl rfl ?_
    refine Pl.qA_b (v := .bool true) (fun X => Pl.r_lss (decide_eq_true (by omega)) X) trivial rfl rfl rfl rfl rfl rfl ?_
    refine Pl.pA_end ?_
    repeat refine Pl.V_seq ?_
    refine Pl.V_true rfl ?_
    repeat refine Pl.V_seq ?_
    refine Pl.V_skip ?_
    repeat refine Pl.V_seq ?_
    refine Pl.V_block ?_
    obtain ⟨ad, rfl, hla⟩ := (hl.ex hX).load hlt
    have hwX := hX.size
    have hle := recs_take_le l q
    repeat refine Pl.V_seq ?_
    refine Pl.V_region (by kernel_rfl) ?_
    refine Pl.qA_go trivial rfl ?_
    refine Pl.qA_ix (s := 2) (j := q) Tryd.underlying29 (by kernel_rfl) rfl (by omega) trivial rfl rfl rfl rfl rfl rfl ?_
    refine Pl.qA_loadw trivial rfl rfl rfl rfl rfl (hla _ (Pl.Ex.refl _)) ?_
    refine Pl.pA_call rfl rfl rfl rfl rfl (fun u X => Pl.enters Tryd.func12 (by kernel_rfl) rfl u X) ?_
    refine Calls.mono (append_yes _ l[q] (Gy.by (Gy.ex hG (Pl.Ex.refl _)) (by omega)) (hm _ (List.getElem_mem hlt)) (hg.ex (Pl.Ex.trans hX (Pl.Ex.refl _))) (by omega)) ?_
    rintro e w1 ⟨v5, rfl, hG5, hE1⟩
    have sz1 := Pl.Ex.size hE1
    refine ⟨_, rfl, trivial, ?_⟩
    refine Pl.qA_go trivial rfl ?_
    refine Pl.pA_end ?_
    repeat refine Pl.V_seq ?_
    refine Pl.V_region (by kernel_rfl) ?_
    refine Pl.qA_go trivial rfl ?_
    refine Pl.qA_b (v := .bool false) (fun X => Pl.r_neq (Pl.n_f (by omega)) X) trivial rfl rfl rfl rfl rfl rfl ?_
    refine Pl.pA_end ?_
    repeat refine Pl.V_seq ?_
    refine Pl.V_false rfl ?_
    repeat refine Pl.V_seq ?_
    refine Pl.V_skip ?_
    repeat refine Pl.V_seq ?_
    refine Pl.V_region (by kernel_rfl) ?_
    refine Pl.qA_go trivial rfl ?_
    refine Pl.pA_end ?_
    repeat refine Pl.V_seq ?_
    refine Pl.V_endblock ?_
    repeat refine Pl.V_seq ?_
    refine Pl.V_region (by kernel_rfl) ?_
    refine Pl.qA_go trivial rfl ?_
    refine Pl.qA_b (v := .int .i64 (((q + 1) : Nat) : Int)) (fun X => Pl.r_add (Pl.a64 (a := q) (b := 1) rfl rfl (by omega)) X) trivial rfl rfl rfl rfl rfl rfl ?_
    refine Pl.qA_go trivial rfl ?_
    refine Pl.pA_end ?_
    refine Pl.V_again [(0, .slice (some ad) l.length c), (4, v5), (5, .int .i64 (((q + 1) : Nat) : Int))] (Pl.subl_cons rfl (Pl.subl_cons rfl (Pl.subl_cons rfl Pl.subl_nil))) (k' := k - 1) (by omega) ⟨q + 1, _, by omega, by rw [recs_snoc l hlt]; exact Pl.Gr.mono hG5 (by have := Pl.Ex.size (Pl.Ex.refl Z); omega), Pl.Ex.trans hX hE1, rfl⟩
  · repeat refine Pl.V_seq ?_
    refine Pl.V_region (by kernel_rfl) ?_
    refine Pl.qA_go trivial rfl ?_
    refine Pl.qA_ln Tryd.underlying29 trivial rfl rfl rfl rfl rfl ?_
    refine Pl.qA_b (v := .bool false) (fun X => Pl.r_lss (decide_eq_false (by omega)) X) trivial rfl rfl rfl rfl rfl rfl ?_
    refine Pl.pA_end ?_
    repeat refine Pl.V_seq ?_
    refine Pl.V_false rfl ?_
    repeat refine Pl.V_seq ?_
    refine Pl.V_exit ?_
    repeat refine Pl.V_seq ?_
    refine Pl.V_region (by kernel_rfl) ?_
    refine Pl.qA_go trivial rfl ?_
    refine Pl.pA_end ?_
    repeat refine Pl.V_seq ?_
    rw [List.take_of_length_le (by omega)] at hG
    exact Pl.post_ret2 rfl rfl rfl ⟨_, rfl, hG, hX⟩
end Go.Proofs.YtmioaeaobefphaaDoor
