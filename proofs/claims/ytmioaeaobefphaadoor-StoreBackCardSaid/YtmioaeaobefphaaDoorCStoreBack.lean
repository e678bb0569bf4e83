/- Proved: the statement StoreBack. -/
import Derived.Test.YtmioaeaobefphaaDoorBar
import Derived.Test.YtmioaeaobefphaaDoorBaq

namespace Go.Proofs.YtmioaeaobefphaaDoor
open Go.RowKit 
set_option linter.unusedVariables false
set_option linter.unusedSimpArgs false
set_option maxRecDepth 100000
set_option maxHeartbeats 4000000
theorem StoreBack_walk (w : World) {v : Value} {lo : Nat} {l : List T.Ent} (hl : Es w lo v l) (hg : Gl w) :
    Calls Tryd.prog 4 #[v] w fun e w' => e = .returned (.bool true) ∧ Pl.Ex w w' := by
  obtain ⟨A, c, rfl, hn, hc⟩ := hl.sh
  refine Pl.calls_by (n := 51) (vs := [.slice A l.length c]) Tryd.func4 rfl (by kernel_rfl) (by simp) ?_
  repeat refine Pl.V_seq ?_
  refine Pl.V_region (by kernel_rfl) ?_
  refine Pl.qA_go trivial rfl ?_
  refine Pl.pA_end ?_
  repeat refine Pl.V_seq ?_
  refine Pl.V_region (by kernel_rfl) ?_
  refine Pl.pA_call rfl rfl rfl rfl rfl (fun u X => Pl.enters Tryd.func11 (by kernel_rfl) rfl u X) ?_
  refine Calls.mono (head_calls _ (hg.ex (Pl.Ex.refl _))) ?_
  rintro e w1 ⟨rfl, hE1⟩
  have sz1 := Pl.Ex.size hE1
  refine ⟨_, rfl, trivial, ?_⟩
  refine Pl.qA_go trivial rfl ?_
  refine Pl.pA_end ?_
  repeat refine Pl.V_seq ?_
  refine Pl.V_region (by kernel_rfl) ?_
  refine Pl.qA_go trivial rfl ?_
  refine Pl.pA_call rfl rfl rfl rfl rfl (fun u X => Pl.enters Tryd.func21 (by kernel_rfl) rfl u X) ?_
  refine Calls.mono (made_calls _ (Es.ex hl hE1) 12 (by omega)) ?_
  rintro e w2 ⟨vm, rfl, hM, hE2⟩
  have hmay := T.made_may l 12
  have hmr := T.made_recs l 12
  generalize T.made l 12 = M at *
  have sz2 := Pl.Ex.size hE2
  refine ⟨_, rfl, trivial, ?_⟩
  refine Pl.qA_go trivial rfl ?_
  refine Pl.pA_end ?_
  repeat refine Pl.V_seq ?_
  refine Pl.V_region (by kernel_rfl) ?_
  refine Pl.qA_go trivial rfl ?_
  refine Pl.pA_call rfl rfl rfl rfl rfl (fun u X => Pl.enters Tryd.func22 (by kernel_rfl) rfl u X) ?_
  refine Calls.mono (written_calls _ (Es.ex hM (Pl.Ex.refl _)) hmay (hg.ex (Pl.Ex.trans hE1 hE2)) (by omega)) ?_
  rintro e w3 ⟨vl, rfl, hG, hE3⟩
  obtain ⟨A5, c5, rfl, hc5⟩ := Pl.Gr.shp hG
  have hL := Gy.by hG (by omega)
  have sz3 := Pl.Ex.size hE3
  refine ⟨_, rfl, trivial, ?_⟩
  refine Pl.qA_go trivial rfl ?_
  refine Pl.pA_end ?_
  repeat refine Pl.V_seq ?_
  refine Pl.V_region (by kernel_rfl) ?_
  refine Pl.qA_go trivial rfl ?_
  refine Pl.pA_call rfl rfl rfl rfl rfl (fun u X => Pl.enters Tryd.func14 (by kernel_rfl) rfl u X) ?_
  refine Calls.mono (read_recs _ (By.ex hL (Pl.Ex.refl _)) (hg.ex (Pl.Ex.trans hE1 (Pl.Ex.trans hE2 hE3))) hmay (by omega)) ?_
  rintro e w4 ⟨rv, rfl, hR, hE4⟩
  have sz4 := Pl.Ex.size hE4
  refine ⟨_, rfl, trivial, ?_⟩
  refine Pl.qA_go trivial rfl ?_
  refine Pl.pA_end ?_
  have hLb := By.ex hL hE4
  have hgB := hg.ex (Pl.Ex.trans hE1 (Pl.Ex.trans hE2 (Pl.Ex.trans hE3 hE4)))
  have hMb := Es.ex hM (Pl.Ex.trans hE3 hE4)
  repeat refine Pl.V_seq ?_
  refine Pl.V_drawG (S := fun X => Pl.Ex w4 X) fo (Pl.Ex.trans (Pl.Ex.refl _) (Pl.Ex.drew _)) ?_
  have hE5 := Pl.Ex.drew w4
  generalize w4.drew = w5 at *
  have sz5 := Pl.Ex.size hE5
  intro hS5
  refine Pl.G_plan [(true, 0, 0), (true, 1, 1), (true, 2, 3), (true, 3, 7), (true, 4, 15), (true, 5, 31), (true, 6, 63), (true, 7, 127), (true, 8, 255), (true, 9, 511), (true, 10, 1023), (true, 11, 2047), (true, 12, 4095), (true, 13, 8191), (true, 14, 16383), (true, 15, 32767), (true, 16, 65535), (false, 17, 131071), (true, 18, 262143), (true, 19, 524287), (true, 20, 1048575), (true, 23, 2097151), (true, 24, 10485759), (false, 21, 27262975), (false, 22, 29360127), (true, 25, 33554431), (true, 26, 67108863), (true, 27, 134217727)] 268435455 0 Pl.post_panic (by kernel_rfl) (by kernel_rfl) (by kernel_rfl) ?_
  refine Pl.qA_go hS5 rfl ?_
  refine Pl.qA_b (v := .bool true) (fun X => Pl.r_eql (Pl.e_t (by omega)) X) hS5 rfl rfl rfl rfl rfl rfl ?_
  refine Pl.qA_go hS5 rfl ?_
  refine Pl.qA_ln Tryd.underlying22 hS5 rfl rfl rfl rfl rfl ?_
  refine Pl.qA_b (v := .bool true) (fun X => Pl.r_eql (Pl.e_t rfl) X) hS5 rfl rfl rfl rfl rfl rfl ?_
  refine Pl.qA_go hS5 rfl ?_
  refine Pl.pA_call rfl rfl rfl rfl rfl (fun u X => Pl.enters Tryd.func16 (by kernel_rfl) rfl u X) ?_
  refine Calls.mono (same_eq _ (Es.ex hR hE5) (Es.ex hMb hE5) rfl) ?_
  rintro e w6 ⟨rfl, hE6⟩
  have sz6 := Pl.Ex.size hE6
  have hS6 := Pl.Ex.trans hS5 hE6
  refine ⟨_, rfl, hS6, ?_⟩
  refine Pl.qA_go hS6 rfl ?_
  refine qA_fs (bs := T.recs M) (fun X hX => By.ex hLb hX) hS6 rfl rfl rfl rfl rfl ?_
  refine Pl.pA_call rfl rfl rfl rfl rfl (fun u X => Pl.enters Tryd.func19 (by kernel_rfl) rfl u X) ?_
  refine Calls.mono (repair_recs _ (By.ex hLb (Pl.Ex.trans hE5 hE6)) (hgB.ex (Pl.Ex.trans hE5 hE6)) hmay (by omega)) ?_
  rintro e w7 ⟨v8, rfl, hB8, hE7⟩
  have sz7 := Pl.Ex.size hE7
  have hS7 := Pl.Ex.trans hS6 hE7
  refine ⟨_, rfl, hS7, ?_⟩
  refine qA_fsw (bs := T.recs M) (By.ex hB8 (Pl.Ex.refl _)) hS7 rfl rfl rfl rfl rfl ?_
  refine Pl.qA_b (v := .bool true) (fun X => eqS rfl X) hS7 rfl rfl rfl rfl rfl rfl ?_
  refine Pl.qA_go hS7 rfl ?_
  refine Pl.pA_end ?_
  refine Pl.G_V (by kernel_rfl) ?_
  repeat refine Pl.V_seq ?_
  exact Pl.post_ret rfl rfl ⟨rfl, (Pl.Ex.trans hE1 (Pl.Ex.trans hE2 (Pl.Ex.trans hE3 (Pl.Ex.trans hE4 (Pl.Ex.trans hE5 (Pl.Ex.trans hE6 hE7))))))⟩
end Go.Proofs.YtmioaeaobefphaaDoor
/- Proved: the statement StoreBack. -/
namespace Go.Proofs.YtmioaeaobefphaaDoor
open Go.ChangeShapes Go.WideShapes Go.ChangeAt Go.RowKit
set_option linter.unusedVariables false
set_option maxHeartbeats 2000000

set_option maxRecDepth 100000 in
theorem lifted_StoreBack (os : Os) (started : os.Started) (H : Type) (enc : TypeId × Value → H) :
    ReturnsInHanded {} Tryd.checked os 4 .any (fun w args => (Rows.storeBackSpec.pre enc Tryd.prog Tryd.f4 [] false w args ∧ laidMetH Tryd.prog laidV w) ∧ sizedMet enc Tryd.prog Tryd.f4 (OpenSpec.ofChange Rows.storeBackSpec) false w args)
      (Rows.storeBackSpec.post enc Tryd.prog Tryd.f4 false true false false) := by
  refine returnsInHanded_of_change_and (C := Tryd.checked) (X := fun w _ => laidMetH Tryd.prog laidV w) (fun _ _ _ hh h => h.of_heap hh) own started (by kernel_rfl) Tryd.func4
    (ChangeSpec.witness_shaped (enc := enc) (C := Tryd.checked) (os := os) (X := fun w _ => laidMetH Tryd.prog laidV w) false (World.doorLaid Tryd.prog 400 os) #[.slice none 0 0] 8 rfl (World.shaped_of_RefB (by kernel_rfl) (by kernel_rfl)) (by kernel_rfl) (by kernel_rfl) (by kernel_rfl) (door_met os _)) ?_
  intro W base args ds gs before hval0 hW _ _ hL _
  have hval : ∀ (j : Nat) t v, Tryd.f4.params[j]? = some t → args[j]? = some v → Value.okWide Tryd.prog W .any base t v := hval0
  have hW' := hW
  obtain ⟨p, q, hA0, hV, rfl, hfz, hnd⟩ := hW
  have hlt : ∀ x ∈ p ++ q, x.block < W.heap.size := fun x hx => hW'.lt x hx
  have hA : DataW.TrodAll enc Tryd.prog W 0 (fun _ => true) true Tryd.f4.params.toList args.toList ds p := hA0
  rw [Tryd.params4] at hA hval
  clear hA0 hval0
  obtain ⟨v0, vs0, d0, ds0, p0, q0, hargs0, rfl, rfl, h0, r0⟩ := trodAll_cons hA
  obtain ⟨hn1, rfl, rfl⟩ := trodAll_nil r0
  subst hn1
  obtain rfl : args = #[v0] := by cases args; simp_all
  obtain ⟨rfl, rfl⟩ := trodVars_none hV
  obtain ⟨l0, u0⟩ := open_entries (hval 0 29 v0 rfl rfl) h0 (fun x hx => hlt x (by simp [hx]))
  refine (StoreBack_walk W u0 (gl_of_laid hL)).mono fun e W' ⟨he, hB⟩ => ?_
  subst he
  exact ⟨_, rfl, law_post hW' rfl (by rw [Tryd.params4]; decide +kernel) rfl rfl rfl rfl hB⟩

theorem storeBack_said : Rows.StoreBackSaid :=
  OpenClaim.holds_of_wide 4 Tryd.f4 rfl rfl rfl rfl rfl rfl rfl ⟨rfl, rfl, rfl, rfl, rfl⟩ rfl rfl rfl rfl rfl (by kernel_rfl) Tryd.func4 (by kernel_rfl)
    (of_decide_eq_true (by kernel_rfl)) (by unfold Func.isWrapper; first | (rw [if_pos (by decide +kernel)]; kernel_rfl) | (rw [if_neg (by decide +kernel)]; exact ⟨rfl, rfl⟩))
    (fun os started H enc _ => lifted_StoreBack os started H enc)
/-- The statement: the card, tied. -/
theorem storeBack_holds : Rows.StoreBackCardSaid :=
  Claim7.holds_tied_plain_at .later [] [.handle, .data] true Rows.storeBackCard.stood.harness true
    storeBack_said (fun _ h => by cases h) (by kernel_rfl) (fun _ h => by cases h) storeBack_row_tie rfl ⟨rfl, rfl⟩ (by kernel_rfl) rfl
    (fun f fn hf hfn => by
      obtain rfl : f = 4 := Option.some.inj ((show Tryd.prog.funcNamed "ziggurat/zigguratlaw30.StoreBack" = some 4 by kernel_rfl).symm.trans hf) |>.symm
      obtain rfl : fn = Tryd.f4 := (Option.some.inj (Tryd.func4.symm.trans hfn)).symm
      exact ⟨by kernel_rfl, fun j t ht => by
        rw [Tryd.params4] at ht
        have hm : t ∈ [29] := by simpa using Array.mem_of_getElem? ht
        have hall : ([29].all fun u => !Tryd.prog.wantsStandIn u) = true := by kernel_rfl
        exact (show Tryd.prog.wantsStandIn t = false by simpa using List.all_eq_true.1 hall t hm)⟩)
    (by kernel_rfl)
end Go.Proofs.YtmioaeaobefphaaDoor
