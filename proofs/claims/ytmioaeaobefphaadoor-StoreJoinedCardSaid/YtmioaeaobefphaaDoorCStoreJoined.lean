/- Proved: the statement StoreJoined. -/
import Derived.Test.YtmioaeaobefphaaDoorBar
import Derived.Test.YtmioaeaobefphaaDoorBaq

namespace Go.Proofs.YtmioaeaobefphaaDoor
open Go.RowKit 
set_option linter.unusedVariables false
set_option linter.unusedSimpArgs false
set_option maxRecDepth 100000
set_option maxHeartbeats 4000000
theorem T.recs_ge2 : ∀ (l : List T.Ent), l.length ≤ (T.recs l).length
  | [] => by simp [T.recs]
  | e :: l => by
    have h1 := T.recs_ge2 l
    show (e :: l).length ≤ (T.recs ([e] ++ l)).length
    rw [T.recs_append, T.recs_one, List.length_append, List.length_cons, T.recd_len]
    omega
theorem T.rd_few (b : T.Byt) : (T.rd b).1.length ≤ b.length := by
  obtain ⟨_, h2, h3, _⟩ := T.rd_spec b
  have h4 := T.recs_ge2 (T.rd b).1
  rw [← h3, List.length_take] at h4
  omega
theorem StoreJoined_walk (w : World) {v u : Value} {lo lo2 : Nat} {l : List T.Ent} {bs : T.Byt} (hl : Es w lo v l) (h : By w lo2 u bs) (hg : Gl w) :
    Calls Tryd.prog 9 #[v, u] w fun e w' => e = .returned (.bool true) ∧ Pl.Ex w w' := by
  obtain ⟨Al, cl, rfl, hnl0, hcl⟩ := hl.sh
  obtain ⟨A, c, rfl, hn, hc⟩ := h.sh
  refine Pl.calls_by (n := 75) (vs := [.slice Al l.length cl, .slice A bs.length c]) Tryd.func9 rfl (by kernel_rfl) (by simp) ?_
  repeat refine Pl.V_seq ?_
  refine Pl.V_region (by kernel_rfl) ?_
  refine Pl.qA_go trivial rfl ?_
  refine Pl.pA_end ?_
  repeat refine Pl.V_seq ?_
  refine Pl.V_region (by kernel_rfl) ?_
  refine Pl.pA_call rfl rfl rfl rfl rfl (fun u X => Pl.enters Tryd.func11 (by kernel_rfl) rfl u X) ?_
  refine Calls.mono (head_calls _ (hg.ex (Pl.Ex.refl _))) ?_
  rintro e w1 ⟨rfl, hE1⟩
  have sz1 := Pl.Ex.size hE1
  refine ⟨_, rfl, trivial, ?_⟩
  refine Pl.qA_go trivial rfl ?_
  refine Pl.pA_end ?_
  by_cases h1 : bs.length > 2000
  · repeat refine Pl.V_seq ?_
    refine Pl.V_region (by kernel_rfl) ?_
    refine Pl.qA_go trivial rfl ?_
    refine Pl.qA_ln Tryd.underlying22 trivial rfl rfl rfl rfl rfl ?_
    refine Pl.qA_b (v := .bool true) (fun X => Pl.r_gtr (decide_eq_true (by omega)) X) trivial rfl rfl rfl rfl rfl rfl ?_
    refine Pl.pA_end ?_
    repeat refine Pl.V_seq ?_
    refine Pl.V_true rfl ?_
    repeat refine Pl.V_seq ?_
    refine Pl.V_region (by kernel_rfl) ?_
    refine Pl.qA_go trivial rfl ?_
    refine Pl.pA_end ?_
    repeat refine Pl.V_seq ?_
    exact Pl.post_ret rfl rfl ⟨rfl, hE1⟩
  · repeat refine Pl.V_seq ?_
    refine Pl.V_region (by kernel_rfl) ?_
    refine Pl.qA_go trivial rfl ?_
    refine Pl.qA_ln Tryd.underlying22 trivial rfl rfl rfl rfl rfl ?_
    refine Pl.qA_b (v := .bool false) (fun X => Pl.r_gtr (decide_eq_false (by omega)) X) trivial rfl rfl rfl rfl rfl rfl ?_
    refine Pl.pA_end ?_
    repeat refine Pl.V_seq ?_
    refine Pl.V_false rfl ?_
    repeat refine Pl.V_seq ?_
    refine Pl.V_skip ?_
    repeat refine Pl.V_seq ?_
    refine Pl.V_region (by kernel_rfl) ?_
    refine Pl.qA_go trivial rfl ?_
    refine Pl.pA_call rfl rfl rfl rfl rfl (fun u X => Pl.enters Tryd.func21 (by kernel_rfl) rfl u X) ?_
    refine Calls.mono (made_calls _ (Es.ex hl hE1) 8 (by omega)) ?_
    rintro e w2 ⟨vm, rfl, hM, hE2⟩
    have hmay := T.made_may l 8
    have hmr := T.made_recs l 8
    have hml := T.made_len l 8
    generalize T.made l 8 = M at *
    have sz2 := Pl.Ex.size hE2
    refine ⟨_, rfl, trivial, ?_⟩
    refine Pl.qA_go trivial rfl ?_
    refine Pl.pA_end ?_
    repeat refine Pl.V_seq ?_
    refine Pl.V_region (by kernel_rfl) ?_
    refine Pl.qA_go trivial rfl ?_
    refine Pl.pA_call rfl rfl rfl rfl rfl (fun u X => Pl.enters Tryd.func22 (by kernel_rfl) rfl u X) ?_
    refine Calls.mono (written_calls _ (Es.ex hM (Pl.Ex.refl _)) hmay (hg.ex (Pl.Ex.trans hE1 hE2)) (by omega)) ?_
    rintro e w3 ⟨vl, rfl, hG, hE3⟩
    obtain ⟨A5, c5, rfl, hc5⟩ := Pl.Gr.shp hG
    have hL := Gy.by hG (by omega)
    have sz3 := Pl.Ex.size hE3
    refine ⟨_, rfl, trivial, ?_⟩
    refine Pl.qA_go trivial rfl ?_
    refine Pl.pA_end ?_
    have hrj := T.rd_recs M bs hmay
    repeat refine Pl.V_seq ?_
    refine Pl.V_region (by kernel_rfl) ?_
    refine Pl.qA_go trivial rfl ?_
    refine Pl.pA_call rfl rfl rfl rfl rfl (fun u X => Pl.enters Tryd.func14 (by kernel_rfl) rfl u X) ?_
    refine Calls.mono (read_calls _ (By.ex h (Pl.Ex.trans hE1 (Pl.Ex.trans hE2 hE3))) (hg.ex (Pl.Ex.trans hE1 (Pl.Ex.trans hE2 hE3))) (by omega)) ?_
    rintro e w4 ⟨rv, rfl, hR, hE4⟩
    have hsl := (T.rd_spec bs).2.1
    have hxl := T.rd_few bs
    generalize (T.rd bs).1 = xs at *
    generalize (T.rd bs).2.1 = n at *
    generalize (T.rd bs).2.2 = cc at *
    have sz4 := Pl.Ex.size hE4
    refine ⟨_, rfl, trivial, ?_⟩
    refine Pl.qA_go trivial rfl ?_
    refine Pl.pA_end ?_
    repeat refine Pl.V_seq ?_
    refine Pl.V_region (by kernel_rfl) ?_
    refine Pl.qA_bs (e := 5) (n := 0) [] rfl rfl rfl rfl (by kernel_rfl) (fun Y hY => trivial) ?_
    intro N1 w5 hE5 hN_N1 k_N1_0
    have z_N1 := Pl.Cb.lt k_N1_0
    have sz5 := Pl.Ex.size hE5
    refine Pl.qA_go trivial rfl ?_
    refine Pl.qA_gr (bytes := 1) (z := .int .u8 0) (tx := 22) (news := cB ((T.recs M))) (Gy.nilCb (base := w4.heap.size) k_N1_0 (by omega)) (By.src (By.ex hL (Pl.Ex.trans hE4 hE5))) Tryd.underlying22 (by kernel_rfl) rfl (fun _ _ => trivial) (fun _ _ => trivial) (by first | omega | (simp; omega)) (by decide) (Pl.Ex.size hE5) rfl rfl rfl rfl rfl rfl (fun _ _ => trivial) ?_
    intro v2 w6 g2 hg2
    have hE6 := Pl.Ex.grown hE5 hg2 (fun k hk => (Pl.Gr.lies (Gy.nilCb (base := w4.heap.size) k_N1_0 (by omega)) k hk).1)
    replace g2 := Gy.app g2
    refine Pl.qA_go trivial rfl ?_
    refine Pl.pA_end ?_
    repeat refine Pl.V_seq ?_
    refine Pl.V_region (by kernel_rfl) ?_
    refine Pl.qA_go trivial rfl ?_
    refine Pl.qA_gr (bytes := 1) (z := .int .u8 0) (tx := 22) (news := cB bs) g2 (By.src (By.ex h (Pl.Ex.trans hE1 (Pl.Ex.trans hE2 (Pl.Ex.trans hE3 (Pl.Ex.trans hE4 hE6)))))) Tryd.underlying22 (by kernel_rfl) rfl (fun _ _ => trivial) (fun _ _ => trivial) (by first | omega | (simp; omega)) (by decide) (Pl.Ex.size hE6) rfl rfl rfl rfl rfl rfl (fun _ _ => trivial) ?_
    intro v3 w7 g3 hg3
    have hE7 := Pl.Ex.grown hE6 hg3 (fun k hk => (Pl.Gr.lies g2 k hk).1)
    replace g3 := Gy.app g3
    refine Pl.qA_go trivial rfl ?_
    refine Pl.pA_end ?_
    have hBj := Gy.by g3 (by simp; omega)
    rw [List.nil_append] at hBj
    have hrl : (T.recs M ++ bs).length ≤ 100000000 := by rw [List.length_append]; omega
    repeat refine Pl.V_seq ?_
    refine Pl.V_region (by kernel_rfl) ?_
    refine Pl.qA_go trivial rfl ?_
    refine Pl.pA_call rfl rfl rfl rfl rfl (fun u X => Pl.enters Tryd.func14 (by kernel_rfl) rfl u X) ?_
    refine Calls.mono (read_calls _ (By.ex hBj (Pl.Ex.refl _)) (hg.ex (Pl.Ex.trans hE1 (Pl.Ex.trans hE2 (Pl.Ex.trans hE3 (Pl.Ex.trans hE4 hE7))))) hrl) ?_
    rintro e w8 ⟨rv2, rfl, hR2, hE8⟩
    rw [hrj] at hR2 ⊢
    have sz8 := Pl.Ex.size hE8
    refine ⟨_, rfl, trivial, ?_⟩
    refine Pl.qA_go trivial rfl ?_
    refine Pl.pA_end ?_
    repeat refine Pl.V_seq ?_
    refine Pl.V_region (by kernel_rfl) ?_
    refine Pl.qA_bs (e := 24) (n := 0) [] rfl rfl rfl rfl (by kernel_rfl) (fun Y hY => trivial) ?_
    intro N4 w9 hE9 hN_N4 k_N4_0
    have z_N4 := Pl.Cb.lt k_N4_0
    have sz9 := Pl.Ex.size hE9
    refine Pl.qA_go trivial rfl ?_
    have hGb5 := (Ge.nilCb (base := w8.heap.size) k_N4_0 (by omega))
    refine Pl.qA_gr (e := 24) (bytes := 32) (z := .agg #[.string ⟨#[]⟩, .string ⟨#[]⟩]) (tx := 29) (news := cE M) hGb5 (Es.src (Es.ex hM (Pl.Ex.trans hE3 (Pl.Ex.trans hE4 (Pl.Ex.trans hE7 (Pl.Ex.trans hE8 hE9)))))) Tryd.underlying29 (by kernel_rfl) rfl (fun _ _ => trivial) (fun _ _ => trivial) (by simp; omega) (by decide) (Pl.Ex.size hE9) rfl rfl rfl rfl rfl rfl (fun _ _ => trivial) ?_
    intro v5 w10 g5 hg5
    have hE10 := Pl.Ex.grown hE9 hg5 (fun k hk => (Pl.Gr.lies hGb5 k hk).1)
    replace g5 := Ge.app2 g5
    have sz10 := Pl.Ex.size hE10
    refine Pl.qA_go trivial rfl ?_
    refine Pl.pA_end ?_
    repeat refine Pl.V_seq ?_
    refine Pl.V_region (by kernel_rfl) ?_
    refine Pl.qA_go trivial rfl ?_
    have hGb6 := g5
    refine Pl.qA_gr (e := 24) (bytes := 32) (z := .agg #[.string ⟨#[]⟩, .string ⟨#[]⟩]) (tx := 29) (news := cE xs) hGb6 (Es.src (Es.ex hR (Pl.Ex.trans hE7 (Pl.Ex.trans hE8 hE10)))) Tryd.underlying29 (by kernel_rfl) rfl (fun _ _ => trivial) (fun _ _ => trivial) (by simp; omega) (by decide) (Pl.Ex.size hE10) rfl rfl rfl rfl rfl rfl (fun _ _ => trivial) ?_
    intro v6 w11 g6 hg6
    have hE11 := Pl.Ex.grown hE10 hg6 (fun k hk => (Pl.Gr.lies hGb6 k hk).1)
    replace g6 := Ge.app2 g6
    have sz11 := Pl.Ex.size hE11
    refine Pl.qA_go trivial rfl ?_
    refine Pl.pA_end ?_
    have hAs := Ge.es g6 (by simp; omega)
    repeat refine Pl.V_seq ?_
    refine Pl.V_region (by kernel_rfl) ?_
    refine Pl.qA_go trivial rfl ?_
    refine Pl.qA_b (v := .bool true) (fun X => Pl.r_eql (Pl.e_t rfl) X) trivial rfl rfl rfl rfl rfl rfl ?_
    refine Pl.qA_go trivial rfl ?_
    refine Pl.qA_ln Tryd.underlying22 trivial rfl rfl rfl rfl rfl ?_
    refine Pl.qA_go trivial rfl ?_
    refine Pl.qA_b (v := .int .i64 ((((T.recs M).length + n) : Nat) : Int)) (fun X => Pl.r_add (Pl.a64 (a := (T.recs M).length) (b := n) rfl rfl (by omega)) X) trivial rfl rfl rfl rfl rfl rfl ?_
    refine Pl.qA_b (v := .bool true) (fun X => Pl.r_eql (Pl.e_t rfl) X) trivial rfl rfl rfl rfl rfl rfl ?_
    refine Pl.qA_go trivial rfl ?_
    refine Pl.pA_call rfl rfl rfl rfl rfl (fun u X => Pl.enters Tryd.func16 (by kernel_rfl) rfl u X) ?_
    refine Calls.mono (same_eq _ (Es.ex hR2 hE11) (Es.ex hAs (Pl.Ex.refl _)) (by simp)) ?_
    rintro e w12 ⟨rfl, hE12⟩
    have sz12 := Pl.Ex.size hE12
    refine ⟨_, rfl, trivial, ?_⟩
    refine Pl.qA_go trivial rfl ?_
    refine Pl.pA_end ?_
    repeat refine Pl.V_seq ?_
    exact Pl.post_ret rfl rfl ⟨rfl, (Pl.Ex.trans hE1 (Pl.Ex.trans hE2 (Pl.Ex.trans hE3 (Pl.Ex.trans hE4 (Pl.Ex.trans hE7 (Pl.Ex.trans hE8 (Pl.Ex.trans hE11 hE12)))))))⟩
end Go.Proofs.YtmioaeaobefphaaDoor
/- Proved: the statement StoreJoined. -/
namespace Go.Proofs.YtmioaeaobefphaaDoor
open Go.ChangeShapes Go.WideShapes Go.ChangeAt Go.RowKit
set_option linter.unusedVariables false
set_option maxHeartbeats 2000000

set_option maxRecDepth 100000 in
theorem lifted_StoreJoined (os : Os) (started : os.Started) (H : Type) (enc : TypeId × Value → H) :
    ReturnsInHanded {} Tryd.checked os 9 .any (fun w args => (Rows.storeJoinedSpec.pre enc Tryd.prog Tryd.f9 [] false w args ∧ laidMetH Tryd.prog laidV w) ∧ sizedMet enc Tryd.prog Tryd.f9 (OpenSpec.ofChange Rows.storeJoinedSpec) false w args)
      (Rows.storeJoinedSpec.post enc Tryd.prog Tryd.f9 false true false false) := by
  refine returnsInHanded_of_change_and (C := Tryd.checked) (X := fun w _ => laidMetH Tryd.prog laidV w) (fun _ _ _ hh h => h.of_heap hh) own started (by kernel_rfl) Tryd.func9
    (ChangeSpec.witness_shaped (enc := enc) (C := Tryd.checked) (os := os) (X := fun w _ => laidMetH Tryd.prog laidV w) false (World.doorLaid Tryd.prog 400 os) #[.slice none 0 0, .slice none 0 0] 8 rfl (World.shaped_of_RefB (by kernel_rfl) (by kernel_rfl)) (by kernel_rfl) (by kernel_rfl) (by kernel_rfl) (door_met os _)) ?_
  intro W base args ds gs before hval0 hW _ _ hL _
  have hval : ∀ (j : Nat) t v, Tryd.f9.params[j]? = some t → args[j]? = some v → Value.okWide Tryd.prog W .any base t v := hval0
  have hW' := hW
  obtain ⟨p, q, hA0, hV, rfl, hfz, hnd⟩ := hW
  have hlt : ∀ x ∈ p ++ q, x.block < W.heap.size := fun x hx => hW'.lt x hx
  have hA : DataW.TrodAll enc Tryd.prog W 0 (fun _ => true) true Tryd.f9.params.toList args.toList ds p := hA0
  rw [Tryd.params9] at hA hval
  clear hA0 hval0
  obtain ⟨v0, vs0, d0, ds0, p0, q0, hargs0, rfl, rfl, h0, r0⟩ := trodAll_cons hA
  obtain ⟨v1, vs1, d1, ds1, p1, q1, hargs1, rfl, rfl, h1, r1⟩ := trodAll_cons r0
  obtain ⟨hn1, rfl, rfl⟩ := trodAll_nil r1
  subst hn1
  subst hargs1
  obtain rfl : args = #[v0, v1] := by cases args; simp_all
  obtain ⟨rfl, rfl⟩ := trodVars_none hV
  obtain ⟨l0, u0⟩ := open_entries (hval 0 29 v0 rfl rfl) h0 (fun x hx => hlt x (by simp [hx]))
  obtain ⟨bs1, u1⟩ := open_bytes (hval 1 22 v1 rfl rfl) h1 (fun x hx => hlt x (by simp [hx]))
  refine (StoreJoined_walk W u0 u1 (gl_of_laid hL)).mono fun e W' ⟨he, hB⟩ => ?_
  subst he
  exact ⟨_, rfl, law_post hW' rfl (by rw [Tryd.params9]; decide +kernel) rfl rfl rfl rfl hB⟩

theorem storeJoined_said : Rows.StoreJoinedSaid :=
  OpenClaim.holds_of_wide 9 Tryd.f9 rfl rfl rfl rfl rfl rfl rfl ⟨rfl, rfl, rfl, rfl, rfl⟩ rfl rfl rfl rfl rfl (by kernel_rfl) Tryd.func9 (by kernel_rfl)
    (of_decide_eq_true (by kernel_rfl)) (by unfold Func.isWrapper; first | (rw [if_pos (by decide +kernel)]; kernel_rfl) | (rw [if_neg (by decide +kernel)]; exact ⟨rfl, rfl⟩))
    (fun os started H enc _ => lifted_StoreJoined os started H enc)
/-- The statement: the card, tied. -/
theorem storeJoined_holds : Rows.StoreJoinedCardSaid :=
  Claim7.holds_tied_plain_at .later [] [.handle, .data] true Rows.storeJoinedCard.stood.harness true
    storeJoined_said (fun _ h => by cases h) (by kernel_rfl) (fun _ h => by cases h) storeJoined_row_tie rfl ⟨rfl, rfl⟩ (by kernel_rfl) rfl
    (fun f fn hf hfn => by
      obtain rfl : f = 9 := Option.some.inj ((show Tryd.prog.funcNamed "ziggurat/zigguratlaw30.StoreJoined" = some 9 by kernel_rfl).symm.trans hf) |>.symm
      obtain rfl : fn = Tryd.f9 := (Option.some.inj (Tryd.func9.symm.trans hfn)).symm
      exact ⟨by kernel_rfl, fun j t ht => by
        rw [Tryd.params9] at ht
        have hm : t ∈ [29, 22] := by simpa using Array.mem_of_getElem? ht
        have hall : ([29, 22].all fun u => !Tryd.prog.wantsStandIn u) = true := by kernel_rfl
        exact (show Tryd.prog.wantsStandIn t = false by simpa using List.all_eq_true.1 hall t hm)⟩)
    (by kernel_rfl)
end Go.Proofs.YtmioaeaobefphaaDoor
