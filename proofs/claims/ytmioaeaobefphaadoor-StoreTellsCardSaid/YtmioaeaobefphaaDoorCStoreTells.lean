/- Proved: the statement StoreTells. -/
import Derived.Test.YtmioaeaobefphaaDoorBar
import Derived.Test.YtmioaeaobefphaaDoorBaq

namespace Go.Proofs.YtmioaeaobefphaaDoor
open Go.RowKit 
set_option linter.unusedVariables false
set_option linter.unusedSimpArgs false
set_option maxRecDepth 100000
set_option maxHeartbeats 4000000
theorem StoreTells_walk (w : World) {v : Value} {lo : Nat} {bs : T.Byt} (h : By w lo v bs) (e0 : T.Ent) (hg : Gl w) :
    Calls Tryd.prog 3 #[v, .agg #[.string (mkS e0.1), .string (mkS e0.2)]] w fun e w' => e = .returned (.bool true) ∧ Pl.Ex w w' := by
  obtain ⟨A, c, rfl, hn, hc⟩ := h.sh
  refine Pl.calls_by (n := 101) (vs := [.slice A bs.length c, .agg #[.string (mkS e0.1), .string (mkS e0.2)]]) Tryd.func3 rfl (by kernel_rfl) (by simp) ?_
  repeat refine Pl.V_seq ?_
  refine Pl.V_region (by kernel_rfl) ?_
  refine Pl.qA_bx (cs := [.string (mkS e0.1), .string (mkS e0.2)]) rfl rfl rfl rfl rfl rfl (fun Y hY => trivial) ?_
  intro N1 w1 hE1 hN_N1 k_N1_0
  have z_N1 := Pl.Cb.lt k_N1_0
  have sz1 := Pl.Ex.size hE1
  refine Pl.qA_go trivial rfl ?_
  refine Pl.pA_end ?_
  repeat refine Pl.V_seq ?_
  refine Pl.V_region (by kernel_rfl) ?_
  refine Pl.pA_call rfl rfl rfl rfl rfl (fun u X => Pl.enters Tryd.func11 (by kernel_rfl) rfl u X) ?_
  refine Calls.mono (head_calls _ (hg.ex hE1)) ?_
  rintro e w2 ⟨rfl, hE2⟩
  have sz2 := Pl.Ex.size hE2
  refine ⟨_, rfl, trivial, ?_⟩
  refine Pl.qA_go trivial rfl ?_
  refine Pl.pA_end ?_
  by_cases h1 : bs.length > 3000
  · repeat refine Pl.V_seq ?_
    refine Pl.V_region (by kernel_rfl) ?_
    refine Pl.qA_go trivial rfl ?_
    refine Pl.qA_ln Tryd.underlying22 trivial rfl rfl rfl rfl rfl ?_
    refine Pl.qA_b (v := .bool true) (fun X => Pl.r_gtr (a := ((bs.length : Nat) : Int)) (b := 3000) (decide_eq_true (by omega)) X) trivial rfl rfl rfl rfl rfl rfl ?_
    refine Pl.qA_go trivial rfl ?_
    refine Pl.pA_end ?_
    repeat refine Pl.V_seq ?_
    refine Pl.V_true rfl ?_
    repeat refine Pl.V_seq ?_
    refine Pl.V_region (by kernel_rfl) ?_
    refine Pl.qA_go trivial rfl ?_
    refine Pl.pA_end ?_
    repeat refine Pl.V_seq ?_
    exact Pl.post_ret rfl rfl ⟨rfl, (Pl.Ex.trans hE1 hE2)⟩
  · by_cases h2 : e0.1.length > 100
    · repeat refine Pl.V_seq ?_
      refine Pl.V_region (by kernel_rfl) ?_
      refine Pl.qA_go trivial rfl ?_
      refine Pl.qA_ln Tryd.underlying22 trivial rfl rfl rfl rfl rfl ?_
      refine Pl.qA_b (v := .bool false) (fun X => Pl.r_gtr (a := ((bs.length : Nat) : Int)) (b := 3000) (decide_eq_false (by omega)) X) trivial rfl rfl rfl rfl rfl rfl ?_
      refine Pl.qA_go trivial rfl ?_
      refine Pl.qA_ev (.pointer (some ⟨N1, 0, none⟩)) trivial rfl rfl rfl rfl (fun X => by kernel_rfl) ?_
      refine Pl.qA_lcw (v := .string (mkS e0.1)) Tryd.underlying9 rfl (Pl.Cb.at (j := 0) (Pl.Cb.ex k_N1_0 hE2) rfl) trivial rfl rfl rfl rfl rfl ?_
      refine Pl.qA_lt Tryd.underlying9 trivial rfl rfl rfl rfl rfl ?_
      refine Pl.qA_b (v := .bool true) (fun X => Pl.r_gtr (a := ((e0.1.length : Nat) : Int)) (b := 100) (decide_eq_true (by omega)) X) trivial rfl rfl rfl rfl rfl rfl ?_
      refine Pl.qA_go trivial rfl ?_
      refine Pl.pA_end ?_
      repeat refine Pl.V_seq ?_
      refine Pl.V_true rfl ?_
      repeat refine Pl.V_seq ?_
      refine Pl.V_region (by kernel_rfl) ?_
      refine Pl.qA_go trivial rfl ?_
      refine Pl.pA_end ?_
      repeat refine Pl.V_seq ?_
      exact Pl.post_ret rfl rfl ⟨rfl, (Pl.Ex.trans hE1 hE2)⟩
    · by_cases h3 : e0.2.length > 20500
      · repeat refine Pl.V_seq ?_
        refine Pl.V_region (by kernel_rfl) ?_
        refine Pl.qA_go trivial rfl ?_
        refine Pl.qA_ln Tryd.underlying22 trivial rfl rfl rfl rfl rfl ?_
        refine Pl.qA_b (v := .bool false) (fun X => Pl.r_gtr (a := ((bs.length : Nat) : Int)) (b := 3000) (decide_eq_false (by omega)) X) trivial rfl rfl rfl rfl rfl rfl ?_
        refine Pl.qA_go trivial rfl ?_
        refine Pl.qA_ev (.pointer (some ⟨N1, 0, none⟩)) trivial rfl rfl rfl rfl (fun X => by kernel_rfl) ?_
        refine Pl.qA_lcw (v := .string (mkS e0.1)) Tryd.underlying9 rfl (Pl.Cb.at (j := 0) (Pl.Cb.ex k_N1_0 hE2) rfl) trivial rfl rfl rfl rfl rfl ?_
        refine Pl.qA_lt Tryd.underlying9 trivial rfl rfl rfl rfl rfl ?_
        refine Pl.qA_b (v := .bool false) (fun X => Pl.r_gtr (a := ((e0.1.length : Nat) : Int)) (b := 100) (decide_eq_false (by omega)) X) trivial rfl rfl rfl rfl rfl rfl ?_
        refine Pl.qA_go trivial rfl ?_
        refine Pl.qA_ev (.pointer (some ⟨N1, 1, none⟩)) trivial rfl rfl rfl rfl (fun X => by kernel_rfl) ?_
        refine Pl.qA_lcw (v := .string (mkS e0.2)) Tryd.underlying9 rfl (Pl.Cb.at (j := 1) (Pl.Cb.ex k_N1_0 hE2) rfl) trivial rfl rfl rfl rfl rfl ?_
        refine Pl.qA_lt Tryd.underlying9 trivial rfl rfl rfl rfl rfl ?_
        refine Pl.qA_b (v := .bool true) (fun X => Pl.r_gtr (a := ((e0.2.length : Nat) : Int)) (b := 20500) (decide_eq_true (by omega)) X) trivial rfl rfl rfl rfl rfl rfl ?_
        refine Pl.qA_go trivial rfl ?_
        refine Pl.pA_end ?_
        repeat refine Pl.V_seq ?_
        refine Pl.V_true rfl ?_
        repeat refine Pl.V_seq ?_
        refine Pl.V_region (by kernel_rfl) ?_
        refine Pl.qA_go trivial rfl ?_
        refine Pl.pA_end ?_
        repeat refine Pl.V_seq ?_
        exact Pl.post_ret rfl rfl ⟨rfl, (Pl.Ex.trans hE1 hE2)⟩
      · repeat refine Pl.V_seq ?_
        refine Pl.V_region (by kernel_rfl) ?_
        refine Pl.qA_go trivial rfl ?_
        refine Pl.qA_ln Tryd.underlying22 trivial rfl rfl rfl rfl rfl ?_
        refine Pl.qA_b (v := .bool false) (fun X => Pl.r_gtr (a := ((bs.length : Nat) : Int)) (b := 3000) (decide_eq_false (by omega)) X) trivial rfl rfl rfl rfl rfl rfl ?_
        refine Pl.qA_go trivial rfl ?_
        refine Pl.qA_ev (.pointer (some ⟨N1, 0, none⟩)) trivial rfl rfl rfl rfl (fun X => by kernel_rfl) ?_
        refine Pl.qA_lcw (v := .string (mkS e0.1)) Tryd.underlying9 rfl (Pl.Cb.at (j := 0) (Pl.Cb.ex k_N1_0 hE2) rfl) trivial rfl rfl rfl rfl rfl ?_
        refine Pl.qA_lt Tryd.underlying9 trivial rfl rfl rfl rfl rfl ?_
        refine Pl.qA_b (v := .bool false) (fun X => Pl.r_gtr (a := ((e0.1.length : Nat) : Int)) (b := 100) (decide_eq_false (by omega)) X) trivial rfl rfl rfl rfl rfl rfl ?_
        refine Pl.qA_go trivial rfl ?_
        refine Pl.qA_ev (.pointer (some ⟨N1, 1, none⟩)) trivial rfl rfl rfl rfl (fun X => by kernel_rfl) ?_
        refine Pl.qA_lcw (v := .string (mkS e0.2)) Tryd.underlying9 rfl (Pl.Cb.at (j := 1) (Pl.Cb.ex k_N1_0 hE2) rfl) trivial rfl rfl rfl rfl rfl ?_
        refine Pl.qA_lt Tryd.underlying9 trivial rfl rfl rfl rfl rfl ?_
        refine Pl.qA_b (v := .bool false) (fun X => Pl.r_gtr (a := ((e0.2.length : Nat) : Int)) (b := 20500) (decide_eq_false (by omega)) X) trivial rfl rfl rfl rfl rfl rfl ?_
        refine Pl.qA_go trivial rfl ?_
        refine Pl.pA_end ?_
        repeat refine Pl.V_seq ?_
        refine Pl.V_false rfl ?_
        repeat refine Pl.V_seq ?_
        refine Pl.V_skip ?_
        by_cases hm : T.May e0
        · repeat refine Pl.V_seq ?_
          refine Pl.V_region (by kernel_rfl) ?_
          refine Pl.qA_go trivial rfl ?_
          refine Pl.qA_lrw (part := [.string (mkS e0.1), .string (mkS e0.2)]) (Pl.Cb.ex k_N1_0 hE2) rfl Tryd.underlying24 rfl (by kernel_rfl) trivial rfl rfl rfl rfl rfl ?_
          refine Pl.pA_call rfl rfl rfl rfl rfl (fun u X => Pl.enters Tryd.func12 (by kernel_rfl) rfl u X) ?_
          refine Calls.mono (append_yes _ e0 (By.ex h (Pl.Ex.trans hE1 hE2)) hm (hg.ex (Pl.Ex.trans hE1 hE2)) (by omega)) ?_
          rintro e w3 ⟨v1, rfl, hG1, hE3⟩
          have sz3 := Pl.Ex.size hE3
          refine ⟨_, rfl, trivial, ?_⟩
          refine Pl.qA_go trivial rfl ?_
          refine Pl.pA_end ?_
          repeat refine Pl.V_seq ?_
          refine Pl.V_region (by kernel_rfl) ?_
          refine Pl.qA_go trivial rfl ?_
          refine Pl.qA_lrw (part := [.string (mkS e0.1), .string (mkS e0.2)]) (Pl.Cb.ex k_N1_0 (Pl.Ex.trans hE2 hE3)) rfl Tryd.underlying24 rfl (by kernel_rfl) trivial rfl rfl rfl rfl rfl ?_
          refine Pl.pA_call rfl rfl rfl rfl rfl (fun u X => Pl.enters Tryd.func13 (by kernel_rfl) rfl u X) ?_
          refine Calls.mono (rappend_yes _ e0 (By.ex h (Pl.Ex.trans hE1 (Pl.Ex.trans hE2 hE3))) hm (by omega)) ?_
          rintro e w4 ⟨v2, rfl, hG2, hE4⟩
          have sz4 := Pl.Ex.size hE4
          refine ⟨_, rfl, trivial, ?_⟩
          refine Pl.qA_go trivial rfl ?_
          refine Pl.pA_end ?_
          obtain ⟨-, -, hm2⟩ := id hm
          obtain ⟨-, hm1, -⟩ := id hm
          have hrl : (bs ++ T.recd e0).length ≤ 1000000000 := by rw [List.length_append, T.recd_len]; omega
          repeat refine Pl.V_seq ?_
          refine Pl.V_region (by kernel_rfl) ?_
          refine Pl.qA_go trivial rfl ?_
          refine Pl.pA_call rfl rfl rfl rfl rfl (fun u X => Pl.enters Tryd.func14 (by kernel_rfl) rfl u X) ?_
          refine Calls.mono (read_calls _ (By.ex h (Pl.Ex.trans hE1 (Pl.Ex.trans hE2 (Pl.Ex.trans hE3 hE4)))) (hg.ex (Pl.Ex.trans hE1 (Pl.Ex.trans hE2 (Pl.Ex.trans hE3 hE4)))) (by omega)) ?_
          rintro e w5 ⟨rv, rfl, hr1, hE5⟩
          have sz5 := Pl.Ex.size hE5
          refine ⟨_, rfl, trivial, ?_⟩
          refine Pl.qA_go trivial rfl ?_
          refine Pl.pA_end ?_
          repeat refine Pl.V_seq ?_
          refine Pl.V_region (by kernel_rfl) ?_
          refine Pl.qA_go trivial rfl ?_
          refine Pl.pA_call rfl rfl rfl rfl rfl (fun u X => Pl.enters Tryd.func15 (by kernel_rfl) rfl u X) ?_
          refine Calls.mono (rread_calls _ (By.ex h (Pl.Ex.trans hE1 (Pl.Ex.trans hE2 (Pl.Ex.trans hE3 (Pl.Ex.trans hE4 hE5))))) (by omega)) ?_
          rintro e w6 ⟨rv2, rfl, hr2, hE6⟩
          have sz6 := Pl.Ex.size hE6
          refine ⟨_, rfl, trivial, ?_⟩
          refine Pl.qA_go trivial rfl ?_
          refine Pl.pA_end ?_
          have hB := By.ex h (Pl.Ex.trans hE1 (Pl.Ex.trans hE2 (Pl.Ex.trans hE3 (Pl.Ex.trans hE4 (Pl.Ex.trans hE5 hE6)))))
          have hgB := hg.ex (Pl.Ex.trans hE1 (Pl.Ex.trans hE2 (Pl.Ex.trans hE3 (Pl.Ex.trans hE4 (Pl.Ex.trans hE5 hE6)))))
          have hA1 := By.ex (Gy.by hG1 hrl) (Pl.Ex.trans hE4 (Pl.Ex.trans hE5 hE6))
          have hA2 := By.ex (Gy.by hG2 hrl) (Pl.Ex.trans hE5 hE6)
          have hR1 := Es.ex hr1 hE6
          have hR2 := hr2
          repeat refine Pl.V_seq ?_
          refine Pl.V_drawG (S := fun X => Pl.Ex w6 X) fo (Pl.Ex.trans (Pl.Ex.refl _) (Pl.Ex.drew _)) ?_
          have hE7 := Pl.Ex.drew w6
          generalize w6.drew = w7 at *
          have sz7 := Pl.Ex.size hE7
          intro hS7
          refine Pl.G_plan [(true, 0, 0), (true, 1, 1), (true, 2, 3), (true, 3, 7), (true, 4, 15), (true, 5, 31), (true, 6, 63), (true, 7, 127), (true, 8, 255), (true, 9, 511), (true, 10, 1023), (true, 11, 2047), (true, 12, 4095), (true, 13, 8191), (true, 14, 16383), (true, 15, 32767), (false, 16, 65535), (true, 17, 131071), (true, 18, 262143), (true, 19, 524287), (true, 20, 1048575), (true, 21, 2097151), (true, 22, 4194303), (true, 23, 8388607), (true, 24, 16777215), (true, 25, 33554431), (true, 26, 67108863), (true, 27, 134217727), (true, 28, 268435455), (true, 29, 536870911), (true, 31, 1073741823), (false, 30, 3221225471), (false, 32, 4294967295), (true, 33, 8589934591), (true, 34, 17179869183), (true, 35, 34359738367), (true, 36, 68719476735), (true, 39, 137438953471), (false, 37, 687194767359)] 824633720831 6 Pl.post_panic (by kernel_rfl) (by kernel_rfl) (by kernel_rfl) ?_
          refine Pl.qA_go hS7 rfl ?_
          refine qA_fs (bs := bs ++ T.recd e0) (fun X hX => By.ex hA1 hX) hS7 rfl rfl rfl rfl rfl ?_
          refine Pl.qA_go hS7 rfl ?_
          refine qA_fs (bs := bs ++ T.recd e0) (fun X hX => By.ex hA2 hX) hS7 rfl rfl rfl rfl rfl ?_
          refine Pl.qA_b (v := .bool true) (fun X => eqS rfl X) hS7 rfl rfl rfl rfl rfl rfl ?_
          refine Pl.qA_go hS7 rfl ?_
          refine Pl.qA_b (v := .bool true) (fun X => Pl.r_eql (Pl.e_t rfl) X) hS7 rfl rfl rfl rfl rfl rfl ?_
          refine Pl.qA_go hS7 rfl ?_
          refine Pl.pA_call rfl rfl rfl rfl rfl (fun u X => Pl.enters Tryd.func16 (by kernel_rfl) rfl u X) ?_
          refine Calls.mono (same_eq _ (Es.ex hR1 hE7) (Es.ex hR2 hE7) rfl) ?_
          rintro e w8 ⟨rfl, hE8⟩
          have sz8 := Pl.Ex.size hE8
          have hS8 := Pl.Ex.trans hS7 hE8
          refine ⟨_, rfl, hS8, ?_⟩
          refine Pl.qA_go hS8 rfl ?_
          refine Pl.qA_b (v := .bool true) (fun X => Pl.r_eql (Pl.e_t rfl) X) hS8 rfl rfl rfl rfl rfl rfl ?_
          refine Pl.qA_go hS8 rfl ?_
          refine Pl.qA_b (v := .bool true) (fun X => Pl.r_eql (Pl.e_t rfl) X) hS8 rfl rfl rfl rfl rfl rfl ?_
          refine Pl.qA_go hS8 rfl ?_
          refine Pl.pA_call rfl rfl rfl rfl rfl (fun u X => Pl.enters Tryd.func17 (by kernel_rfl) rfl u X) ?_
          refine Calls.mono (sumE _ (By.ex hB (Pl.Ex.trans hE7 hE8)) (hgB.ex (Pl.Ex.trans hE7 hE8))) ?_
          rintro e w9 ⟨rfl, hE9⟩
          have sz9 := Pl.Ex.size hE9
          have hS9 := Pl.Ex.trans hS8 hE9
          refine ⟨_, rfl, hS9, ?_⟩
          refine Pl.pA_call rfl rfl rfl rfl rfl (fun u X => Pl.enters Tryd.func18 (by kernel_rfl) rfl u X) ?_
          refine Calls.mono (rsumE _ (By.ex hB (Pl.Ex.trans hE7 (Pl.Ex.trans hE8 hE9)))) ?_
          rintro e w10 ⟨rfl, hE10⟩
          have sz10 := Pl.Ex.size hE10
          have hS10 := Pl.Ex.trans hS9 hE10
          refine ⟨_, rfl, hS10, ?_⟩
          refine Pl.qA_b (v := .bool true) (fun X => Pl.r_eql (Pl.e_t rfl) X) hS10 rfl rfl rfl rfl rfl rfl ?_
          refine Pl.qA_go hS10 rfl ?_
          refine Pl.pA_call rfl rfl rfl rfl rfl (fun u X => Pl.enters Tryd.func19 (by kernel_rfl) rfl u X) ?_
          refine Calls.mono (repair_calls _ (By.ex hB (Pl.Ex.trans hE7 (Pl.Ex.trans hE8 (Pl.Ex.trans hE9 hE10)))) (hgB.ex (Pl.Ex.trans hE7 (Pl.Ex.trans hE8 (Pl.Ex.trans hE9 hE10)))) (by omega)) ?_
          rintro e w11 ⟨v8, rfl, hG8, hE11⟩
          have sz11 := Pl.Ex.size hE11
          have hS11 := Pl.Ex.trans hS10 hE11
          refine ⟨_, rfl, hS11, ?_⟩
          refine Pl.pA_end ?_
          refine Pl.G_any [38, 40] 5 (by kernel_rfl) (by kernel_rfl) (by kernel_rfl) (Pl.AllG_cons ?_ (Pl.AllG_cons ?_ Pl.AllG_nil))
          · refine qA_fsw (bs := bs.take (T.rd bs).2.1) (Gy.by (Gy.ex hG8 (Pl.Ex.refl _)) (by rw [List.length_take]; omega)) hS11 rfl rfl rfl rfl rfl ?_
            refine Pl.pA_end ?_
            refine Pl.G_plan [(false, 40, 1099511627775), (false, 41, 2199023255551), (true, 42, 4398046511103), (true, 43, 8796093022207), (true, 44, 17592186044415)] 35184372088831 0 Pl.post_panic (by kernel_rfl) (by kernel_rfl) (by kernel_rfl) ?_
            refine Pl.pA_call rfl rfl rfl rfl rfl (fun u X => Pl.enters Tryd.func20 (by kernel_rfl) rfl u X) ?_
            refine Calls.mono (rrepair_calls _ (By.ex hB (Pl.Ex.trans hE7 (Pl.Ex.trans hE8 (Pl.Ex.trans hE9 (Pl.Ex.trans hE10 hE11))))) (by omega)) ?_
            rintro e w12 ⟨v9, rfl, hG9, hE12⟩
            have sz12 := Pl.Ex.size hE12
            have hS12 := Pl.Ex.trans hS11 hE12
            refine ⟨_, rfl, hS12, ?_⟩
            refine qA_fsw (bs := bs.take (T.rd bs).2.1) (By.ex hG9 (Pl.Ex.refl _)) hS12 rfl rfl rfl rfl rfl ?_
            refine Pl.qA_b (v := .bool true) (fun X => eqS rfl X) hS12 rfl rfl rfl rfl rfl rfl ?_
            refine Pl.qA_go hS12 rfl ?_
            refine Pl.pA_end ?_
            refine Pl.G_V (by kernel_rfl) ?_
            repeat refine Pl.V_seq ?_
            exact Pl.post_ret rfl rfl ⟨rfl, (Pl.Ex.trans hE1 (Pl.Ex.trans hE2 (Pl.Ex.trans hE3 (Pl.Ex.trans hE4 (Pl.Ex.trans hE5 (Pl.Ex.trans hE6 (Pl.Ex.trans hE7 (Pl.Ex.trans hE8 (Pl.Ex.trans hE9 (Pl.Ex.trans hE10 (Pl.Ex.trans hE11 hE12)))))))))))⟩
          · refine Pl.pA_call rfl rfl rfl rfl rfl (fun u X => Pl.enters Tryd.func20 (by kernel_rfl) rfl u X) ?_
            refine Calls.mono (rrepair_calls _ (By.ex hB (Pl.Ex.trans hE7 (Pl.Ex.trans hE8 (Pl.Ex.trans hE9 (Pl.Ex.trans hE10 hE11))))) (by omega)) ?_
            rintro e w12 ⟨v9, rfl, hG9, hE12⟩
            have sz12 := Pl.Ex.size hE12
            have hS12 := Pl.Ex.trans hS11 hE12
            refine ⟨_, rfl, hS12, ?_⟩
            refine Pl.pA_end ?_
            refine Pl.G_any [38, 41] 4 (by kernel_rfl) (by kernel_rfl) (by kernel_rfl) (Pl.AllG_cons ?_ (Pl.AllG_cons ?_ Pl.AllG_nil))
            · refine qA_fsw (bs := bs.take (T.rd bs).2.1) (Gy.by (Gy.ex hG8 hE12) (by rw [List.length_take]; omega)) hS12 rfl rfl rfl rfl rfl ?_
              refine Pl.pA_end ?_
              refine Pl.G_plan [(false, 41, 2199023255551), (true, 42, 4398046511103), (true, 43, 8796093022207), (true, 44, 17592186044415)] 35184372088831 0 Pl.post_panic (by kernel_rfl) (by kernel_rfl) (by kernel_rfl) ?_
              refine qA_fsw (bs := bs.take (T.rd bs).2.1) (By.ex hG9 (Pl.Ex.refl _)) hS12 rfl rfl rfl rfl rfl ?_
              refine Pl.qA_b (v := .bool true) (fun X => eqS rfl X) hS12 rfl rfl rfl rfl rfl rfl ?_
              refine Pl.qA_go hS12 rfl ?_
              refine Pl.pA_end ?_
              refine Pl.G_V (by kernel_rfl) ?_
              repeat refine Pl.V_seq ?_
              exact Pl.post_ret rfl rfl ⟨rfl, (Pl.Ex.trans hE1 (Pl.Ex.trans hE2 (Pl.Ex.trans hE3 (Pl.Ex.trans hE4 (Pl.Ex.trans hE5 (Pl.Ex.trans hE6 (Pl.Ex.trans hE7 (Pl.Ex.trans hE8 (Pl.Ex.trans hE9 (Pl.Ex.trans hE10 (Pl.Ex.trans hE11 hE12)))))))))))⟩
            · refine qA_fsw (bs := bs.take (T.rd bs).2.1) (By.ex hG9 (Pl.Ex.refl _)) hS12 rfl rfl rfl rfl rfl ?_
              refine Pl.pA_end ?_
              refine Pl.G_plan [(false, 38, 4123168604159), (true, 42, 4398046511103), (true, 43, 8796093022207), (true, 44, 17592186044415)] 35184372088831 0 Pl.post_panic (by kernel_rfl) (by kernel_rfl) (by kernel_rfl) ?_
              refine qA_fsw (bs := bs.take (T.rd bs).2.1) (Gy.by (Gy.ex hG8 hE12) (by rw [List.length_take]; omega)) hS12 rfl rfl rfl rfl rfl ?_
              refine Pl.qA_b (v := .bool true) (fun X => eqS rfl X) hS12 rfl rfl rfl rfl rfl rfl ?_
              refine Pl.qA_go hS12 rfl ?_
              refine Pl.pA_end ?_
              refine Pl.G_V (by kernel_rfl) ?_
              repeat refine Pl.V_seq ?_
              exact Pl.post_ret rfl rfl ⟨rfl, (Pl.Ex.trans hE1 (Pl.Ex.trans hE2 (Pl.Ex.trans hE3 (Pl.Ex.trans hE4 (Pl.Ex.trans hE5 (Pl.Ex.trans hE6 (Pl.Ex.trans hE7 (Pl.Ex.trans hE8 (Pl.Ex.trans hE9 (Pl.Ex.trans hE10 (Pl.Ex.trans hE11 hE12)))))))))))⟩
        · repeat refine Pl.V_seq ?_
          refine Pl.V_region (by kernel_rfl) ?_
          refine Pl.qA_go trivial rfl ?_
          refine Pl.qA_lrw (part := [.string (mkS e0.1), .string (mkS e0.2)]) (Pl.Cb.ex k_N1_0 hE2) rfl Tryd.underlying24 rfl (by kernel_rfl) trivial rfl rfl rfl rfl rfl ?_
          refine Pl.pA_call rfl rfl rfl rfl rfl (fun u X => Pl.enters Tryd.func12 (by kernel_rfl) rfl u X) ?_
          refine Calls.mono (append_no _ e0 (By.ex h (Pl.Ex.trans hE1 hE2)) hm) ?_
          rintro e w3 ⟨rfl, hE3⟩
          have sz3 := Pl.Ex.size hE3
          refine ⟨_, rfl, trivial, ?_⟩
          refine Pl.qA_go trivial rfl ?_
          refine Pl.pA_end ?_
          repeat refine Pl.V_seq ?_
          refine Pl.V_region (by kernel_rfl) ?_
          refine Pl.qA_go trivial rfl ?_
          refine Pl.qA_lrw (part := [.string (mkS e0.1), .string (mkS e0.2)]) (Pl.Cb.ex k_N1_0 (Pl.Ex.trans hE2 hE3)) rfl Tryd.underlying24 rfl (by kernel_rfl) trivial rfl rfl rfl rfl rfl ?_
          refine Pl.pA_call rfl rfl rfl rfl rfl (fun u X => Pl.enters Tryd.func13 (by kernel_rfl) rfl u X) ?_
          refine Calls.mono (rappend_no _ e0 (By.ex h (Pl.Ex.trans hE1 (Pl.Ex.trans hE2 hE3))) hm) ?_
          rintro e w4 ⟨rfl, hE4⟩
          have sz4 := Pl.Ex.size hE4
          refine ⟨_, rfl, trivial, ?_⟩
          refine Pl.qA_go trivial rfl ?_
          refine Pl.pA_end ?_
          repeat refine Pl.V_seq ?_
          refine Pl.V_region (by kernel_rfl) ?_
          refine Pl.qA_go trivial rfl ?_
          refine Pl.pA_call rfl rfl rfl rfl rfl (fun u X => Pl.enters Tryd.func14 (by kernel_rfl) rfl u X) ?_
          refine Calls.mono (read_calls _ (By.ex h (Pl.Ex.trans hE1 (Pl.Ex.trans hE2 (Pl.Ex.trans hE3 hE4)))) (hg.ex (Pl.Ex.trans hE1 (Pl.Ex.trans hE2 (Pl.Ex.trans hE3 hE4)))) (by omega)) ?_
          rintro e w5 ⟨rv, rfl, hr1, hE5⟩
          have sz5 := Pl.Ex.size hE5
          refine ⟨_, rfl, trivial, ?_⟩
          refine Pl.qA_go trivial rfl ?_
          refine Pl.pA_end ?_
          repeat refine Pl.V_seq ?_
          refine Pl.V_region (by kernel_rfl) ?_
          refine Pl.qA_go trivial rfl ?_
          refine Pl.pA_call rfl rfl rfl rfl rfl (fun u X => Pl.enters Tryd.func15 (by kernel_rfl) rfl u X) ?_
          refine Calls.mono (rread_calls _ (By.ex h (Pl.Ex.trans hE1 (Pl.Ex.trans hE2 (Pl.Ex.trans hE3 (Pl.Ex.trans hE4 hE5))))) (by omega)) ?_
          rintro e w6 ⟨rv2, rfl, hr2, hE6⟩
          have sz6 := Pl.Ex.size hE6
          refine ⟨_, rfl, trivial, ?_⟩
          refine Pl.qA_go trivial rfl ?_
          refine Pl.pA_end ?_
          have hB := By.ex h (Pl.Ex.trans hE1 (Pl.Ex.trans hE2 (Pl.Ex.trans hE3 (Pl.Ex.trans hE4 (Pl.Ex.trans hE5 hE6)))))
          have hgB := hg.ex (Pl.Ex.trans hE1 (Pl.Ex.trans hE2 (Pl.Ex.trans hE3 (Pl.Ex.trans hE4 (Pl.Ex.trans hE5 hE6)))))
          have hA1 := By.ex (By.nil w4 0) (Pl.Ex.trans hE5 hE6)
          have hA2 := By.ex (By.nil w4 0) (Pl.Ex.trans hE5 hE6)
          have hR1 := Es.ex hr1 hE6
          have hR2 := hr2
          repeat refine Pl.V_seq ?_
          refine Pl.V_drawG (S := fun X => Pl.Ex w6 X) fo (Pl.Ex.trans (Pl.Ex.refl _) (Pl.Ex.drew _)) ?_
          have hE7 := Pl.Ex.drew w6
          generalize w6.drew = w7 at *
          have sz7 := Pl.Ex.size hE7
          intro hS7
          refine Pl.G_plan [(true, 0, 0), (true, 1, 1), (true, 2, 3), (true, 3, 7), (true, 4, 15), (true, 5, 31), (true, 6, 63), (true, 7, 127), (true, 8, 255), (true, 9, 511), (true, 10, 1023), (true, 11, 2047), (true, 12, 4095), (true, 13, 8191), (true, 14, 16383), (true, 15, 32767), (false, 16, 65535), (true, 17, 131071), (true, 18, 262143), (true, 19, 524287), (true, 20, 1048575), (true, 21, 2097151), (true, 22, 4194303), (true, 23, 8388607), (true, 24, 16777215), (true, 25, 33554431), (true, 26, 67108863), (true, 27, 134217727), (true, 28, 268435455), (true, 29, 536870911), (true, 31, 1073741823), (false, 30, 3221225471), (false, 32, 4294967295), (true, 33, 8589934591), (true, 34, 17179869183), (true, 35, 34359738367), (true, 36, 68719476735), (true, 39, 137438953471), (false, 37, 687194767359)] 824633720831 6 Pl.post_panic (by kernel_rfl) (by kernel_rfl) (by kernel_rfl) ?_
          refine Pl.qA_go hS7 rfl ?_
          refine qA_fs (bs := []) (fun X hX => By.ex hA1 hX) hS7 rfl rfl rfl rfl rfl ?_
          refine Pl.qA_go hS7 rfl ?_
          refine qA_fs (bs := []) (fun X hX => By.ex hA2 hX) hS7 rfl rfl rfl rfl rfl ?_
          refine Pl.qA_b (v := .bool true) (fun X => eqS rfl X) hS7 rfl rfl rfl rfl rfl rfl ?_
          refine Pl.qA_go hS7 rfl ?_
          refine Pl.qA_b (v := .bool true) (fun X => Pl.r_eql (Pl.e_t rfl) X) hS7 rfl rfl rfl rfl rfl rfl ?_
          refine Pl.qA_go hS7 rfl ?_
          refine Pl.pA_call rfl rfl rfl rfl rfl (fun u X => Pl.enters Tryd.func16 (by kernel_rfl) rfl u X) ?_
          refine Calls.mono (same_eq _ (Es.ex hR1 hE7) (Es.ex hR2 hE7) rfl) ?_
          rintro e w8 ⟨rfl, hE8⟩
          have sz8 := Pl.Ex.size hE8
          have hS8 := Pl.Ex.trans hS7 hE8
          refine ⟨_, rfl, hS8, ?_⟩
          refine Pl.qA_go hS8 rfl ?_
          refine Pl.qA_b (v := .bool true) (fun X => Pl.r_eql (Pl.e_t rfl) X) hS8 rfl rfl rfl rfl rfl rfl ?_
          refine Pl.qA_go hS8 rfl ?_
          refine Pl.qA_b (v := .bool true) (fun X => Pl.r_eql (Pl.e_t rfl) X) hS8 rfl rfl rfl rfl rfl rfl ?_
          refine Pl.qA_go hS8 rfl ?_
          refine Pl.pA_call rfl rfl rfl rfl rfl (fun u X => Pl.enters Tryd.func17 (by kernel_rfl) rfl u X) ?_
          refine Calls.mono (sumE _ (By.ex hB (Pl.Ex.trans hE7 hE8)) (hgB.ex (Pl.Ex.trans hE7 hE8))) ?_
          rintro e w9 ⟨rfl, hE9⟩
          have sz9 := Pl.Ex.size hE9
          have hS9 := Pl.Ex.trans hS8 hE9
          refine ⟨_, rfl, hS9, ?_⟩
          refine Pl.pA_call rfl rfl rfl rfl rfl (fun u X => Pl.enters Tryd.func18 (by kernel_rfl) rfl u X) ?_
          refine Calls.mono (rsumE _ (By.ex hB (Pl.Ex.trans hE7 (Pl.Ex.trans hE8 hE9)))) ?_
          rintro e w10 ⟨rfl, hE10⟩
          have sz10 := Pl.Ex.size hE10
          have hS10 := Pl.Ex.trans hS9 hE10
          refine ⟨_, rfl, hS10, ?_⟩
          refine Pl.qA_b (v := .bool true) (fun X => Pl.r_eql (Pl.e_t rfl) X) hS10 rfl rfl rfl rfl rfl rfl ?_
          refine Pl.qA_go hS10 rfl ?_
          refine Pl.pA_call rfl rfl rfl rfl rfl (fun u X => Pl.enters Tryd.func19 (by kernel_rfl) rfl u X) ?_
          refine Calls.mono (repair_calls _ (By.ex hB (Pl.Ex.trans hE7 (Pl.Ex.trans hE8 (Pl.Ex.trans hE9 hE10)))) (hgB.ex (Pl.Ex.trans hE7 (Pl.Ex.trans hE8 (Pl.Ex.trans hE9 hE10)))) (by omega)) ?_
          rintro e w11 ⟨v8, rfl, hG8, hE11⟩
          have sz11 := Pl.Ex.size hE11
          have hS11 := Pl.Ex.trans hS10 hE11
          refine ⟨_, rfl, hS11, ?_⟩
          refine Pl.pA_end ?_
          refine Pl.G_any [38, 40] 5 (by kernel_rfl) (by kernel_rfl) (by kernel_rfl) (Pl.AllG_cons ?_ (Pl.AllG_cons ?_ Pl.AllG_nil))
          · refine qA_fsw (bs := bs.take (T.rd bs).2.1) (Gy.by (Gy.ex hG8 (Pl.Ex.refl _)) (by rw [List.length_take]; omega)) hS11 rfl rfl rfl rfl rfl ?_
            refine Pl.pA_end ?_
            refine Pl.G_plan [(false, 40, 1099511627775), (false, 41, 2199023255551), (true, 42, 4398046511103), (true, 43, 8796093022207), (true, 44, 17592186044415)] 35184372088831 0 Pl.post_panic (by kernel_rfl) (by kernel_rfl) (by kernel_rfl) ?_
            refine Pl.pA_call rfl rfl rfl rfl rfl (fun u X => Pl.enters Tryd.func20 (by kernel_rfl) rfl u X) ?_
            refine Calls.mono (rrepair_calls _ (By.ex hB (Pl.Ex.trans hE7 (Pl.Ex.trans hE8 (Pl.Ex.trans hE9 (Pl.Ex.trans hE10 hE11))))) (by omega)) ?_
            rintro e w12 ⟨v9, rfl, hG9, hE12⟩
            have sz12 := Pl.Ex.size hE12
            have hS12 := Pl.Ex.trans hS11 hE12
            refine ⟨_, rfl, hS12, ?_⟩
            refine qA_fsw (bs := bs.take (T.rd bs).2.1) (By.ex hG9 (Pl.Ex.refl _)) hS12 rfl rfl rfl rfl rfl ?_
            refine Pl.qA_b (v := .bool true) (fun X => eqS rfl X) hS12 rfl rfl rfl rfl rfl rfl ?_
            refine Pl.qA_go hS12 rfl ?_
            refine Pl.pA_end ?_
            refine Pl.G_V (by kernel_rfl) ?_
            repeat refine Pl.V_seq ?_
            exact Pl.post_ret rfl rfl ⟨rfl, (Pl.Ex.trans hE1 (Pl.Ex.trans hE2 (Pl.Ex.trans hE3 (Pl.Ex.trans hE4 (Pl.Ex.trans hE5 (Pl.Ex.trans hE6 (Pl.Ex.trans hE7 (Pl.Ex.trans hE8 (Pl.Ex.trans hE9 (Pl.Ex.trans hE10 (Pl.Ex.trans hE11 hE12)))))))))))⟩
          · refine Pl.pA_call rfl rfl rfl rfl rfl (fun u X => Pl.enters Tryd.func20 (by kernel_rfl) rfl u X) ?_
            refine Calls.mono (rrepair_calls _ (By.ex hB (Pl.Ex.trans hE7 (Pl.Ex.trans hE8 (Pl.Ex.trans hE9 (Pl.Ex.trans hE10 hE11))))) (by omega)) ?_
            rintro e w12 ⟨v9, rfl, hG9, hE12⟩
            have sz12 := Pl.Ex.size hE12
            have hS12 := Pl.Ex.trans hS11 hE12
            refine ⟨_, rfl, hS12, ?_⟩
            refine Pl.pA_end ?_
            refine Pl.G_any [38, 41] 4 (by kernel_rfl) (by kernel_rfl) (by kernel_rfl) (Pl.AllG_cons ?_ (Pl.AllG_cons ?_ Pl.AllG_nil))
            · refine qA_fsw (bs := bs.take (T.rd bs).2.1) (Gy.by (Gy.ex hG8 hE12) (by rw [List.length_take]; omega)) hS12 rfl rfl rfl rfl rfl ?_
              refine Pl.pA_end ?_
              refine Pl.G_plan [(false, 41, 2199023255551), (true, 42, 4398046511103), (true, 43, 8796093022207), (true, 44, 17592186044415)] 35184372088831 0 Pl.post_panic (by kernel_rfl) (by kernel_rfl) (by kernel_rfl) ?_
              refine qA_fsw (bs := bs.take (T.rd bs).2.1) (By.ex hG9 (Pl.Ex.refl _)) hS12 rfl rfl rfl rfl rfl ?_
              refine Pl.qA_b (v := .bool true) (fun X => eqS rfl X) hS12 rfl rfl rfl rfl rfl rfl ?_
              refine Pl.qA_go hS12 rfl ?_
              refine Pl.pA_end ?_
              refine Pl.G_V (by kernel_rfl) ?_
              repeat refine Pl.V_seq ?_
              exact Pl.post_ret rfl rfl ⟨rfl, (Pl.Ex.trans hE1 (Pl.Ex.trans hE2 (Pl.Ex.trans hE3 (Pl.Ex.trans hE4 (Pl.Ex.trans hE5 (Pl.Ex.trans hE6 (Pl.Ex.trans hE7 (Pl.Ex.trans hE8 (Pl.Ex.trans hE9 (Pl.Ex.trans hE10 (Pl.Ex.trans hE11 hE12)))))))))))⟩
            · refine qA_fsw (bs := bs.take (T.rd bs).2.1) (By.ex hG9 (Pl.Ex.refl _)) hS12 rfl rfl rfl rfl rfl ?_
              refine Pl.pA_end ?_
              refine Pl.G_plan [(false, 38, 4123168604159), (true, 42, 4398046511103), (true, 43, 8796093022207), (true, 44, 17592186044415)] 35184372088831 0 Pl.post_panic (by kernel_rfl) (by kernel_rfl) (by kernel_rfl) ?_
              refine qA_fsw (bs := bs.take (T.rd bs).2.1) (Gy.by (Gy.ex hG8 hE12) (by rw [List.length_take]; omega)) hS12 rfl rfl rfl rfl rfl ?_
              refine Pl.qA_b (v := .bool true) (fun X => eqS rfl X) hS12 rfl rfl rfl rfl rfl rfl ?_
              refine Pl.qA_go hS12 rfl ?_
              refine Pl.pA_end ?_
              refine Pl.G_V (by kernel_rfl) ?_
              repeat refine Pl.V_seq ?_
              exact Pl.post_ret rfl rfl ⟨rfl, (Pl.Ex.trans hE1 (Pl.Ex.trans hE2 (Pl.Ex.trans hE3 (Pl.Ex.trans hE4 (Pl.Ex.trans hE5 (Pl.Ex.trans hE6 (Pl.Ex.trans hE7 (Pl.Ex.trans hE8 (Pl.Ex.trans hE9 (Pl.Ex.trans hE10 (Pl.Ex.trans hE11 hE12)))))))))))⟩
end Go.Proofs.YtmioaeaobefphaaDoor
/- Proved: the statement StoreTells. -/
namespace Go.Proofs.YtmioaeaobefphaaDoor
open Go.ChangeShapes Go.WideShapes Go.ChangeAt Go.RowKit
set_option linter.unusedVariables false
set_option maxHeartbeats 2000000

set_option maxRecDepth 100000 in
theorem lifted_StoreTells (os : Os) (started : os.Started) (H : Type) (enc : TypeId × Value → H) :
    ReturnsInHanded {} Tryd.checked os 3 .any (fun w args => (Rows.storeTellsSpec.pre enc Tryd.prog Tryd.f3 [] false w args ∧ laidMetH Tryd.prog laidV w) ∧ sizedMet enc Tryd.prog Tryd.f3 (OpenSpec.ofChange Rows.storeTellsSpec) false w args)
      (Rows.storeTellsSpec.post enc Tryd.prog Tryd.f3 false true false false) := by
  refine returnsInHanded_of_change_and (C := Tryd.checked) (X := fun w _ => laidMetH Tryd.prog laidV w) (fun _ _ _ hh h => h.of_heap hh) own started (by kernel_rfl) Tryd.func3
    (ChangeSpec.witness_shaped (enc := enc) (C := Tryd.checked) (os := os) (X := fun w _ => laidMetH Tryd.prog laidV w) false (World.doorLaid Tryd.prog 400 os) #[.slice none 0 0, .agg #[.string ⟨#[]⟩, .string ⟨#[]⟩]] 8 rfl (World.shaped_of_RefB (by kernel_rfl) (by kernel_rfl)) (by kernel_rfl) (by kernel_rfl) (by kernel_rfl) (door_met os _)) ?_
  intro W base args ds gs before hval0 hW _ _ hL _
  have hval : ∀ (j : Nat) t v, Tryd.f3.params[j]? = some t → args[j]? = some v → Value.okWide Tryd.prog W .any base t v := hval0
  have hW' := hW
  obtain ⟨p, q, hA0, hV, rfl, hfz, hnd⟩ := hW
  have hlt : ∀ x ∈ p ++ q, x.block < W.heap.size := fun x hx => hW'.lt x hx
  have hA : DataW.TrodAll enc Tryd.prog W 0 (fun _ => true) true Tryd.f3.params.toList args.toList ds p := hA0
  rw [Tryd.params3] at hA hval
  clear hA0 hval0
  obtain ⟨v0, vs0, d0, ds0, p0, q0, hargs0, rfl, rfl, h0, r0⟩ := trodAll_cons hA
  obtain ⟨v1, vs1, d1, ds1, p1, q1, hargs1, rfl, rfl, h1, r1⟩ := trodAll_cons r0
  obtain ⟨hn1, rfl, rfl⟩ := trodAll_nil r1
  subst hn1
  subst hargs1
  obtain rfl : args = #[v0, v1] := by cases args; simp_all
  obtain ⟨rfl, rfl⟩ := trodVars_none hV
  obtain ⟨bs0, u0⟩ := open_bytes (hval 0 22 v0 rfl rfl) h0 (fun x hx => hlt x (by simp [hx]))
  obtain ⟨e1, he1⟩ := open_entry (hval 1 24 v1 rfl rfl) h1
  subst he1
  refine (StoreTells_walk W u0 e1 (gl_of_laid hL)).mono fun e W' ⟨he, hB⟩ => ?_
  subst he
  exact ⟨_, rfl, law_post hW' rfl (by rw [Tryd.params3]; decide +kernel) rfl rfl rfl rfl hB⟩

theorem storeTells_said : Rows.StoreTellsSaid :=
  OpenClaim.holds_of_wide 3 Tryd.f3 rfl rfl rfl rfl rfl rfl rfl ⟨rfl, rfl, rfl, rfl, rfl⟩ rfl rfl rfl rfl rfl (by kernel_rfl) Tryd.func3 (by kernel_rfl)
    (of_decide_eq_true (by kernel_rfl)) (by unfold Func.isWrapper; first | (rw [if_pos (by decide +kernel)]; kernel_rfl) | (rw [if_neg (by decide +kernel)]; exact ⟨rfl, rfl⟩))
    (fun os started H enc _ => lifted_StoreTells os started H enc)
/-- The statement: the card, tied. -/
theorem storeTells_holds : Rows.StoreTellsCardSaid :=
  Claim7.holds_tied_plain_at .later [] [.handle, .data] true Rows.storeTellsCard.stood.harness true
    storeTells_said (fun _ h => by cases h) (by kernel_rfl) (fun _ h => by cases h) storeTells_row_tie rfl ⟨rfl, rfl⟩ (by kernel_rfl) rfl
    (fun f fn hf hfn => by
      obtain rfl : f = 3 := Option.some.inj ((show Tryd.prog.funcNamed "ziggurat/zigguratlaw30.StoreTells" = some 3 by kernel_rfl).symm.trans hf) |>.symm
      obtain rfl : fn = Tryd.f3 := (Option.some.inj (Tryd.func3.symm.trans hfn)).symm
      exact ⟨by kernel_rfl, fun j t ht => by
        rw [Tryd.params3] at ht
        have hm : t ∈ [22, 24] := by simpa using Array.mem_of_getElem? ht
        have hall : ([22, 24].all fun u => !Tryd.prog.wantsStandIn u) = true := by kernel_rfl
        exact (show Tryd.prog.wantsStandIn t = false by simpa using List.all_eq_true.1 hall t hm)⟩)
    (by kernel_rfl)
end Go.Proofs.YtmioaeaobefphaaDoor
