/- Proved: the statement StoreMended. -/
import Derived.Test.YtmioaeaobefphaaDoorBar
import Derived.Test.YtmioaeaobefphaaDoorBaq

namespace Go.Proofs.YtmioaeaobefphaaDoor
open Go.RowKit 
set_option linter.unusedVariables false
set_option linter.unusedSimpArgs false
set_option maxRecDepth 100000
set_option maxHeartbeats 4000000
theorem Es.sh1 {w : World} {lo : Nat} {v : Value} {x : T.Ent} (h : Es w lo v [x]) : ∃ A c, v = .slice A 1 c ∧ 1 ≤ c := by
  obtain ⟨A, c, h1, h2, _⟩ := Es.sh h
  exact ⟨A, c, h1, h2⟩
theorem T.recs_ge : ∀ (l : List T.Ent), l.length ≤ (T.recs l).length
  | [] => by simp [T.recs]
  | e :: l => by
    have h1 := T.recs_ge l
    show (e :: l).length ≤ (T.recs ([e] ++ l)).length
    rw [T.recs_append, T.recs_one, List.length_append, List.length_cons, T.recd_len]
    omega
theorem StoreMended_walk (w : World) {v : Value} {lo : Nat} {bs : T.Byt} (h : By w lo v bs) (e0 : T.Ent) (hg : Gl w) :
    Calls Tryd.prog 8 #[v, .agg #[.string (mkS e0.1), .string (mkS e0.2)]] w fun e w' => e = .returned (.bool true) ∧ Pl.Ex w w' := by
  obtain ⟨A, c, rfl, hn, hc⟩ := h.sh
  obtain ⟨hsm, hsl, hst, hsi, hsc⟩ := T.rd_spec bs
  refine Pl.calls_by (n := 107) (vs := [.slice A bs.length c, .agg #[.string (mkS e0.1), .string (mkS e0.2)]]) Tryd.func8 rfl (by kernel_rfl) (by simp) ?_
  repeat refine Pl.V_seq ?_
  refine Pl.V_region (by kernel_rfl) ?_
  refine Pl.qA_bx (cs := [.string (mkS e0.1), .string (mkS e0.2)]) rfl rfl rfl rfl rfl rfl (fun Y hY => trivial) ?_
  intro N1 w1 hE1 hN_N1 k_N1_0
  have z_N1 := Pl.Cb.lt k_N1_0
  have sz1 := Pl.Ex.size hE1
  refine Pl.qA_go trivial rfl ?_
  refine Pl.pA_end ?_
  repeat refine Pl.V_seq ?_
  refine Pl.V_region (by kernel_rfl) ?_
  refine Pl.pA_call rfl rfl rfl rfl rfl (fun u X => Pl.enters Tryd.func11 (by kernel_rfl) rfl u X) ?_
  refine Calls.mono (head_calls _ (hg.ex hE1)) ?_
  rintro e w2 ⟨rfl, hE2⟩
  have sz2 := Pl.Ex.size hE2
  refine ⟨_, rfl, trivial, ?_⟩
  refine Pl.qA_go trivial rfl ?_
  refine Pl.pA_end ?_
  by_cases h1 : bs.length > 3000
  · repeat refine Pl.V_seq ?_
    refine Pl.V_region (by kernel_rfl) ?_
    refine Pl.qA_go trivial rfl ?_
    refine Pl.qA_ln Tryd.underlying22 trivial rfl rfl rfl rfl rfl ?_
    refine Pl.qA_b (v := .bool true) (fun X => Pl.r_gtr (decide_eq_true (by omega)) X) trivial rfl rfl rfl rfl rfl rfl ?_
    refine Pl.pA_end ?_
    repeat refine Pl.V_seq ?_
    refine Pl.V_true rfl ?_
    repeat refine Pl.V_seq ?_
    refine Pl.V_region (by kernel_rfl) ?_
    refine Pl.qA_go trivial rfl ?_
    refine Pl.pA_end ?_
    repeat refine Pl.V_seq ?_
    exact Pl.post_ret rfl rfl ⟨rfl, (Pl.Ex.trans hE1 hE2)⟩
  · repeat refine Pl.V_seq ?_
    refine Pl.V_region (by kernel_rfl) ?_
    refine Pl.qA_go trivial rfl ?_
    refine Pl.qA_ln Tryd.underlying22 trivial rfl rfl rfl rfl rfl ?_
    refine Pl.qA_b (v := .bool false) (fun X => Pl.r_gtr (decide_eq_false (by omega)) X) trivial rfl rfl rfl rfl rfl rfl ?_
    refine Pl.pA_end ?_
    repeat refine Pl.V_seq ?_
    refine Pl.V_false rfl ?_
    repeat refine Pl.V_seq ?_
    refine Pl.V_skip ?_
    repeat refine Pl.V_seq ?_
    refine Pl.V_region (by kernel_rfl) ?_
    refine Pl.qA_lrw (part := [.string (mkS e0.1), .string (mkS e0.2)]) (Pl.Cb.ex k_N1_0 hE2) rfl Tryd.underlying24 rfl (by kernel_rfl) trivial rfl rfl rfl rfl rfl ?_
    refine Pl.qA_bs (e := 24) (n := 1) [.string (mkS e0.1), .string (mkS e0.2)] rfl rfl rfl rfl (by kernel_rfl) (fun Y hY => trivial) ?_
    intro N2 w3 hE3 hN_N2 k_N2_0
    have z_N2 := Pl.Cb.lt k_N2_0
    have sz3 := Pl.Ex.size hE3
    refine Pl.pA_call rfl rfl rfl rfl rfl (fun u X => Pl.enters Tryd.func21 (by kernel_rfl) rfl u X) ?_
    refine Calls.mono (made_calls _ (Es.cb k_N2_0) 1 (by omega)) ?_
    rintro e w4 ⟨vm, rfl, hM, hE4⟩
    have hfm := T.fit_may e0
    replace hM : Es w4 _ vm [T.fit e0] := hM
    generalize T.fit e0 = f0 at *
    obtain ⟨A6, c6, rfl, hn6⟩ := Es.sh1 hM
    have sz4 := Pl.Ex.size hE4
    refine ⟨_, rfl, trivial, ?_⟩
    refine Pl.qA_go trivial rfl ?_
    refine Pl.pA_end ?_
    repeat refine Pl.V_seq ?_
    refine Pl.V_region (by kernel_rfl) ?_
    refine Pl.qA_go trivial rfl ?_
    refine Pl.pA_call rfl rfl rfl rfl rfl (fun u X => Pl.enters Tryd.func14 (by kernel_rfl) rfl u X) ?_
    refine Calls.mono (read_calls _ (By.ex h (Pl.Ex.trans hE1 (Pl.Ex.trans hE2 (Pl.Ex.trans hE3 hE4)))) (hg.ex (Pl.Ex.trans hE1 (Pl.Ex.trans hE2 (Pl.Ex.trans hE3 hE4)))) (by omega)) ?_
    rintro e w5 ⟨rv, rfl, hR, hE5⟩
    have sz5 := Pl.Ex.size hE5
    refine ⟨_, rfl, trivial, ?_⟩
    refine Pl.qA_go trivial rfl ?_
    refine Pl.pA_end ?_
    repeat refine Pl.V_seq ?_
    refine Pl.V_region (by kernel_rfl) ?_
    refine Pl.qA_go trivial rfl ?_
    refine Pl.pA_call rfl rfl rfl rfl rfl (fun u X => Pl.enters Tryd.func19 (by kernel_rfl) rfl u X) ?_
    refine Calls.mono (repair_calls _ (By.ex h (Pl.Ex.trans hE1 (Pl.Ex.trans hE2 (Pl.Ex.trans hE3 (Pl.Ex.trans hE4 hE5))))) (hg.ex (Pl.Ex.trans hE1 (Pl.Ex.trans hE2 (Pl.Ex.trans hE3 (Pl.Ex.trans hE4 hE5))))) (by omega)) ?_
    rintro e w6 ⟨vr, rfl, hGr, hE6⟩
    rw [hst] at hGr
    have hnl : (T.recs (T.rd bs).1).length = (T.rd bs).2.1 := by rw [← hst, List.length_take]; omega
    generalize (T.rd bs).1 = xs at *
    generalize (T.rd bs).2.1 = n at *
    generalize (T.rd bs).2.2 = cc at *
    obtain ⟨A7, c7, rfl, hc7⟩ := Pl.Gr.shp hGr
    have hBr := Gy.by hGr (by omega)
    have sz6 := Pl.Ex.size hE6
    refine ⟨_, rfl, trivial, ?_⟩
    refine Pl.qA_go trivial rfl ?_
    refine Pl.pA_end ?_
    repeat refine Pl.V_seq ?_
    refine Pl.V_region (by kernel_rfl) ?_
    refine Pl.qA_go trivial rfl ?_
    refine Pl.pA_call rfl rfl rfl rfl rfl (fun u X => Pl.enters Tryd.func14 (by kernel_rfl) rfl u X) ?_
    refine Calls.mono (read_recs _ (By.ex hBr (Pl.Ex.refl _)) (hg.ex (Pl.Ex.trans hE1 (Pl.Ex.trans hE2 (Pl.Ex.trans hE3 (Pl.Ex.trans hE4 (Pl.Ex.trans hE5 hE6)))))) hsm (by omega)) ?_
    rintro e w7 ⟨rv2, rfl, hR2, hE7⟩
    have sz7 := Pl.Ex.size hE7
    refine ⟨_, rfl, trivial, ?_⟩
    refine Pl.qA_go trivial rfl ?_
    refine Pl.pA_end ?_
    obtain ⟨ad, rfl, hla⟩ := hM.load (j := 0) (by simp)
    have hfl : (T.recd f0).length ≤ 20100 := by obtain ⟨_, k1, k2⟩ := hfm; rw [T.recd_len]; omega
    repeat refine Pl.V_seq ?_
    refine Pl.V_region (by kernel_rfl) ?_
    refine Pl.qA_go trivial rfl ?_
    refine Pl.qA_ix (s := 2) (j := 0) Tryd.underlying29 (by kernel_rfl) rfl (by omega) trivial rfl rfl rfl rfl rfl rfl ?_
    refine Pl.qA_loadw trivial rfl rfl rfl rfl rfl (hla _ (Pl.Ex.trans hE5 (Pl.Ex.trans hE6 hE7))) ?_
    refine Pl.pA_call rfl rfl rfl rfl rfl (fun u X => Pl.enters Tryd.func12 (by kernel_rfl) rfl u X) ?_
    refine Calls.mono (append_yes _ f0 (By.ex hBr hE7) hfm (hg.ex (Pl.Ex.trans hE1 (Pl.Ex.trans hE2 (Pl.Ex.trans hE3 (Pl.Ex.trans hE4 (Pl.Ex.trans hE5 (Pl.Ex.trans hE6 hE7))))))) (by omega)) ?_
    rintro e w8 ⟨vn, rfl, hGn, hE8⟩
    rw [← T.recs_one f0, ← T.recs_append] at hGn
    have hnx : (T.recs (xs ++ [f0])).length ≤ 100000 := by rw [T.recs_append, List.length_append, T.recs_one]; omega
    have hBn := Gy.by hGn (by omega)
    have hall : ∀ e ∈ xs ++ [f0], T.May e := fun e he => (List.mem_append.1 he).elim (hsm e) (fun he => by rw [List.mem_singleton] at he; subst he; exact hfm)
    have sz8 := Pl.Ex.size hE8
    refine ⟨_, rfl, trivial, ?_⟩
    refine Pl.qA_go trivial rfl ?_
    refine Pl.pA_end ?_
    repeat refine Pl.V_seq ?_
    refine Pl.V_region (by kernel_rfl) ?_
    refine Pl.qA_go trivial rfl ?_
    refine Pl.pA_call rfl rfl rfl rfl rfl (fun u X => Pl.enters Tryd.func14 (by kernel_rfl) rfl u X) ?_
    refine Calls.mono (read_recs _ (By.ex hBn (Pl.Ex.refl _)) (hg.ex (Pl.Ex.trans hE1 (Pl.Ex.trans hE2 (Pl.Ex.trans hE3 (Pl.Ex.trans hE4 (Pl.Ex.trans hE5 (Pl.Ex.trans hE6 (Pl.Ex.trans hE7 hE8)))))))) hall (by omega)) ?_
    rintro e w9 ⟨rv3, rfl, hR3, hE9⟩
    have sz9 := Pl.Ex.size hE9
    refine ⟨_, rfl, trivial, ?_⟩
    refine Pl.qA_go trivial rfl ?_
    refine Pl.pA_end ?_
    have hxl : xs.length ≤ 100000 := by have := (Es.sh hR).choose_spec.choose_spec; have h9 := T.recs_ge xs; omega
    repeat refine Pl.V_seq ?_
    refine Pl.V_region (by kernel_rfl) ?_
    refine Pl.qA_bs (e := 24) (n := 0) [] rfl rfl rfl rfl (by kernel_rfl) (fun Y hY => trivial) ?_
    intro N3 w10 hE10 hN_N3 k_N3_0
    have z_N3 := Pl.Cb.lt k_N3_0
    have sz10 := Pl.Ex.size hE10
    refine Pl.qA_go trivial rfl ?_
    have hGb4 := (Ge.nilCb (base := w9.heap.size) k_N3_0 (by omega))
    refine Pl.qA_gr (e := 24) (bytes := 32) (z := .agg #[.string ⟨#[]⟩, .string ⟨#[]⟩]) (tx := 29) (news := cE xs) hGb4 (Es.src (Es.ex hR (Pl.Ex.trans hE6 (Pl.Ex.trans hE7 (Pl.Ex.trans hE8 (Pl.Ex.trans hE9 hE10)))))) Tryd.underlying29 (by kernel_rfl) rfl (fun _ _ => trivial) (fun _ _ => trivial) (by simp; omega) (by decide) (Pl.Ex.size hE10) rfl rfl rfl rfl rfl rfl (fun _ _ => trivial) ?_
    intro v4 w11 g4 hg4
    have hE11 := Pl.Ex.grown hE10 hg4 (fun k hk => (Pl.Gr.lies hGb4 k hk).1)
    replace g4 := Ge.app2 g4
    have sz11 := Pl.Ex.size hE11
    refine Pl.qA_go trivial rfl ?_
    refine Pl.pA_end ?_
    repeat refine Pl.V_seq ?_
    refine Pl.V_region (by kernel_rfl) ?_
    refine Pl.qA_go trivial rfl ?_
    refine Pl.qA_ix (s := 2) (j := 0) Tryd.underlying29 (by kernel_rfl) rfl (by omega) trivial rfl rfl rfl rfl rfl rfl ?_
    refine Pl.qA_loadw trivial rfl rfl rfl rfl rfl (hla _ (Pl.Ex.trans hE5 (Pl.Ex.trans hE6 (Pl.Ex.trans hE7 (Pl.Ex.trans hE8 (Pl.Ex.trans hE9 hE11)))))) ?_
    refine Pl.qA_bs (e := 24) (n := 1) [.string (mkS f0.1), .string (mkS f0.2)] rfl rfl rfl rfl (by kernel_rfl) (fun Y hY => trivial) ?_
    intro N5 w12 hE12 hN_N5 k_N5_0
    have z_N5 := Pl.Cb.lt k_N5_0
    have sz12 := Pl.Ex.size hE12
    have hGb6 := (Pl.Gr.ex g4 hE12)
    refine Pl.qA_gr (e := 24) (bytes := 32) (z := .agg #[.string ⟨#[]⟩, .string ⟨#[]⟩]) (tx := 29) (news := cE [f0]) hGb6 (Es.src (Es.cb k_N5_0)) Tryd.underlying29 (by kernel_rfl) rfl (fun _ _ => trivial) (fun _ _ => trivial) (by simp; omega) (by decide) (Pl.Ex.size (Pl.Ex.trans hE11 hE12)) rfl rfl rfl rfl rfl rfl (fun _ _ => trivial) ?_
    intro v6 w13 g6 hg6
    have hE13 := Pl.Ex.grown (Pl.Ex.trans hE11 hE12) hg6 (fun k hk => (Pl.Gr.lies hGb6 k hk).1)
    replace g6 := Ge.app2 g6
    have sz13 := Pl.Ex.size hE13
    refine Pl.qA_go trivial rfl ?_
    refine Pl.pA_end ?_
    have hXs := Es.ex hR (Pl.Ex.trans hE6 (Pl.Ex.trans hE7 (Pl.Ex.trans hE8 (Pl.Ex.trans hE9 hE13))))
    have hYs := Es.ex hR2 (Pl.Ex.trans hE8 (Pl.Ex.trans hE9 hE13))
    have hZs := Es.ex hR3 hE13
    have hAs := Ge.es g6 (by simp; omega)
    have hBr2 := By.ex hBr (Pl.Ex.trans hE7 (Pl.Ex.trans hE8 (Pl.Ex.trans hE9 hE13)))
    have hgB := hg.ex (Pl.Ex.trans hE1 (Pl.Ex.trans hE2 (Pl.Ex.trans hE3 (Pl.Ex.trans hE4 (Pl.Ex.trans hE5 (Pl.Ex.trans hE6 (Pl.Ex.trans hE7 (Pl.Ex.trans hE8 (Pl.Ex.trans hE9 hE13)))))))))
    repeat refine Pl.V_seq ?_
    refine Pl.V_drawG (S := fun X => Pl.Ex w13 X) fo (Pl.Ex.trans (Pl.Ex.refl _) (Pl.Ex.drew _)) ?_
    have hE14 := Pl.Ex.drew w13
    generalize w13.drew = w14 at *
    have sz14 := Pl.Ex.size hE14
    intro hS14
    refine Pl.G_plan [(true, 0, 0), (true, 1, 1), (true, 2, 3), (true, 3, 7), (true, 4, 15), (true, 5, 31), (true, 6, 63), (true, 7, 127), (true, 8, 255), (true, 9, 511), (true, 10, 1023), (true, 11, 2047), (true, 12, 4095), (true, 13, 8191), (true, 14, 16383), (true, 15, 32767), (true, 16, 65535), (true, 17, 131071), (true, 18, 262143), (false, 19, 524287), (true, 20, 1048575), (true, 21, 2097151), (true, 22, 4194303), (true, 23, 8388607), (true, 24, 16777215), (true, 25, 33554431), (true, 26, 67108863), (true, 27, 134217727), (true, 28, 268435455), (true, 29, 536870911), (true, 30, 1073741823), (true, 31, 2147483647), (false, 32, 4294967295), (true, 33, 8589934591), (true, 34, 17179869183), (true, 35, 34359738367), (true, 38, 68719476735), (true, 39, 343597383679), (false, 36, 893353197567), (false, 37, 962072674303), (true, 40, 1099511627775), (true, 41, 2199023255551), (true, 42, 4398046511103)] 8796093022207 0 Pl.post_panic (by kernel_rfl) (by kernel_rfl) (by kernel_rfl) ?_
    refine Pl.qA_go hS14 rfl ?_
    refine Pl.qA_ln Tryd.underlying22 hS14 rfl rfl rfl rfl rfl ?_
    refine Pl.qA_go hS14 rfl ?_
    refine Pl.qA_b (v := .bool true) (fun X => Pl.r_eql (Pl.e_t (a := (((T.recs xs).length : Nat) : Int)) (b := ((n : Nat) : Int)) (by omega)) X) hS14 rfl rfl rfl rfl rfl rfl ?_
    refine Pl.qA_go hS14 rfl ?_
    refine Pl.qA_b (v := .bool true) (fun X => Pl.r_eql (Pl.e_t (a := (((T.recs xs).length : Nat) : Int)) (b := ((n : Nat) : Int)) (by omega)) X) hS14 rfl rfl rfl rfl rfl rfl ?_
    refine Pl.qA_go hS14 rfl ?_
    refine Pl.qA_b (v := .bool true) (fun X => Pl.r_eql (Pl.e_t (by omega)) X) hS14 rfl rfl rfl rfl rfl rfl ?_
    refine Pl.qA_go hS14 rfl ?_
    refine Pl.pA_call rfl rfl rfl rfl rfl (fun u X => Pl.enters Tryd.func16 (by kernel_rfl) rfl u X) ?_
    refine Calls.mono (same_eq _ (Es.ex hXs hE14) (Es.ex hYs hE14) rfl) ?_
    rintro e w15 ⟨rfl, hE15⟩
    have sz15 := Pl.Ex.size hE15
    have hS15 := Pl.Ex.trans hS14 hE15
    refine ⟨_, rfl, hS15, ?_⟩
    refine Pl.qA_go hS15 rfl ?_
    refine Pl.qA_b (v := .bool true) (fun X => Pl.r_eql (Pl.e_t (by omega)) X) hS15 rfl rfl rfl rfl rfl rfl ?_
    refine Pl.qA_go hS15 rfl ?_
    refine Pl.qA_b (v := .bool true) (fun X => Pl.r_eql (Pl.e_t (by omega)) X) hS15 rfl rfl rfl rfl rfl rfl ?_
    refine Pl.qA_go hS15 rfl ?_
    refine Pl.pA_call rfl rfl rfl rfl rfl (fun u X => Pl.enters Tryd.func16 (by kernel_rfl) rfl u X) ?_
    refine Calls.mono (same_eq _ (Es.ex hZs (Pl.Ex.trans hE14 hE15)) (Es.ex hAs (Pl.Ex.trans hE14 hE15)) (by simp)) ?_
    rintro e w16 ⟨rfl, hE16⟩
    have sz16 := Pl.Ex.size hE16
    have hS16 := Pl.Ex.trans hS15 hE16
    refine ⟨_, rfl, hS16, ?_⟩
    refine Pl.qA_go hS16 rfl ?_
    refine qA_fs (bs := T.recs xs) (fun X hX => By.ex hBr2 hX) hS16 rfl rfl rfl rfl rfl ?_
    refine Pl.pA_call rfl rfl rfl rfl rfl (fun u X => Pl.enters Tryd.func19 (by kernel_rfl) rfl u X) ?_
    refine Calls.mono (repair_recs _ (By.ex hBr2 (Pl.Ex.trans hE14 (Pl.Ex.trans hE15 hE16))) (hgB.ex (Pl.Ex.trans hE14 (Pl.Ex.trans hE15 hE16))) hsm (by omega)) ?_
    rintro e w17 ⟨v8, rfl, hB8, hE17⟩
    have sz17 := Pl.Ex.size hE17
    have hS17 := Pl.Ex.trans hS16 hE17
    refine ⟨_, rfl, hS17, ?_⟩
    refine qA_fsw (bs := T.recs xs) (By.ex hB8 (Pl.Ex.refl _)) hS17 rfl rfl rfl rfl rfl ?_
    refine Pl.qA_b (v := .bool true) (fun X => eqS rfl X) hS17 rfl rfl rfl rfl rfl rfl ?_
    refine Pl.qA_go hS17 rfl ?_
    refine Pl.pA_end ?_
    refine Pl.G_V (by kernel_rfl) ?_
    repeat refine Pl.V_seq ?_
    exact Pl.post_ret rfl rfl ⟨rfl, (Pl.Ex.trans hE1 (Pl.Ex.trans hE2 (Pl.Ex.trans hE3 (Pl.Ex.trans hE4 (Pl.Ex.trans hE5 (Pl.Ex.trans hE6 (Pl.Ex.trans hE7 (Pl.Ex.trans hE8 (Pl.Ex.trans hE9 (Pl.Ex.trans hE13 (Pl.Ex.trans hE14 (Pl.Ex.trans hE15 (Pl.Ex.trans hE16 hE17)))))))))))))⟩
end Go.Proofs.YtmioaeaobefphaaDoor
/- Proved: the statement StoreMended. -/
namespace Go.Proofs.YtmioaeaobefphaaDoor
open Go.ChangeShapes Go.WideShapes Go.ChangeAt Go.RowKit
set_option linter.unusedVariables false
set_option maxHeartbeats 2000000

set_option maxRecDepth 100000 in
theorem lifted_StoreMended (os : Os) (started : os.Started) (H : Type) (enc : TypeId × Value → H) :
    ReturnsInHanded {} Tryd.checked os 8 .any (fun w args => (Rows.storeMendedSpec.pre enc Tryd.prog Tryd.f8 [] false w args ∧ laidMetH Tryd.prog laidV w) ∧ sizedMet enc Tryd.prog Tryd.f8 (OpenSpec.ofChange Rows.storeMendedSpec) false w args)
      (Rows.storeMendedSpec.post enc Tryd.prog Tryd.f8 false true false false) := by
  refine returnsInHanded_of_change_and (C := Tryd.checked) (X := fun w _ => laidMetH Tryd.prog laidV w) (fun _ _ _ hh h => h.of_heap hh) own started (by kernel_rfl) Tryd.func8
    (ChangeSpec.witness_shaped (enc := enc) (C := Tryd.checked) (os := os) (X := fun w _ => laidMetH Tryd.prog laidV w) false (World.doorLaid Tryd.prog 400 os) #[.slice none 0 0, .agg #[.string ⟨#[]⟩, .string ⟨#[]⟩]] 8 rfl (World.shaped_of_RefB (by kernel_rfl) (by kernel_rfl)) (by kernel_rfl) (by kernel_rfl) (by kernel_rfl) (door_met os _)) ?_
  intro W base args ds gs before hval0 hW _ _ hL _
  have hval : ∀ (j : Nat) t v, Tryd.f8.params[j]? = some t → args[j]? = some v → Value.okWide Tryd.prog W .any base t v := hval0
  have hW' := hW
  obtain ⟨p, q, hA0, hV, rfl, hfz, hnd⟩ := hW
  have hlt : ∀ x ∈ p ++ q, x.block < W.heap.size := fun x hx => hW'.lt x hx
  have hA : DataW.TrodAll enc Tryd.prog W 0 (fun _ => true) true Tryd.f8.params.toList args.toList ds p := hA0
  rw [Tryd.params8] at hA hval
  clear hA0 hval0
  obtain ⟨v0, vs0, d0, ds0, p0, q0, hargs0, rfl, rfl, h0, r0⟩ := trodAll_cons hA
  obtain ⟨v1, vs1, d1, ds1, p1, q1, hargs1, rfl, rfl, h1, r1⟩ := trodAll_cons r0
  obtain ⟨hn1, rfl, rfl⟩ := trodAll_nil r1
  subst hn1
  subst hargs1
  obtain rfl : args = #[v0, v1] := by cases args; simp_all
  obtain ⟨rfl, rfl⟩ := trodVars_none hV
  obtain ⟨bs0, u0⟩ := open_bytes (hval 0 22 v0 rfl rfl) h0 (fun x hx => hlt x (by simp [hx]))
  obtain ⟨e1, he1⟩ := open_entry (hval 1 24 v1 rfl rfl) h1
  subst he1
  refine (StoreMended_walk W u0 e1 (gl_of_laid hL)).mono fun e W' ⟨he, hB⟩ => ?_
  subst he
  exact ⟨_, rfl, law_post hW' rfl (by rw [Tryd.params8]; decide +kernel) rfl rfl rfl rfl hB⟩

theorem storeMended_said : Rows.StoreMendedSaid :=
  OpenClaim.holds_of_wide 8 Tryd.f8 rfl rfl rfl rfl rfl rfl rfl ⟨rfl, rfl, rfl, rfl, rfl⟩ rfl rfl rfl rfl rfl (by kernel_rfl) Tryd.func8 (by kernel_rfl)
    (of_decide_eq_true (by kernel_rfl)) (by unfold Func.isWrapper; first | (rw [if_pos (by decide +kernel)]; kernel_rfl) | (rw [if_neg (by decide +kernel)]; exact ⟨rfl, rfl⟩))
    (fun os started H enc _ => lifted_StoreMended os started H enc)
/-- The statement: the card, tied. -/
theorem storeMended_holds : Rows.StoreMendedCardSaid :=
  Claim7.holds_tied_plain_at .later [] [.handle, .data] true Rows.storeMendedCard.stood.harness true
    storeMended_said (fun _ h => by cases h) (by kernel_rfl) (fun _ h => by cases h) storeMended_row_tie rfl ⟨rfl, rfl⟩ (by kernel_rfl) rfl
    (fun f fn hf hfn => by
      obtain rfl : f = 8 := Option.some.inj ((show Tryd.prog.funcNamed "ziggurat/zigguratlaw30.StoreMended" = some 8 by kernel_rfl).symm.trans hf) |>.symm
      obtain rfl : fn = Tryd.f8 := (Option.some.inj (Tryd.func8.symm.trans hfn)).symm
      exact ⟨by kernel_rfl, fun j t ht => by
        rw [Tryd.params8] at ht
        have hm : t ∈ [22, 24] := by simpa using Array.mem_of_getElem? ht
        have hall : ([22, 24].all fun u => !Tryd.prog.wantsStandIn u) = true := by kernel_rfl
        exact (show Tryd.prog.wantsStandIn t = false by simpa using List.all_eq_true.1 hall t hm)⟩)
    (by kernel_rfl)
end Go.Proofs.YtmioaeaobefphaaDoor
