/- Read. -/
import Derived.Test.YtmioaeaobefphaaDoorBam

namespace Go.Proofs.YtmioaeaobefphaaDoor
open Go.RowKit 
set_option linter.unusedVariables false
set_option linter.unusedSimpArgs false
set_option maxRecDepth 100000
set_option maxHeartbeats 4000000
theorem read_calls (w : World) {v : Value} {lo : Nat} {bs : T.Byt} (h : By w lo v bs) (hg : Gl w) (hm : bs.length ≤ 100000000) :
    Calls Tryd.prog 14 #[v] w fun e w' => ∃ rv, e = .returned (.tuple #[rv, .int .i64 (((T.rd bs).2.1 : Nat) : Int), .int .i64 (((T.rd bs).2.2 : Nat) : Int)]) ∧ Es w' w.heap.size rv (T.rd bs).1 ∧ Pl.Ex w w' := by
  obtain ⟨A, c, rfl, hn, hc⟩ := h.sh
  refine Pl.calls_byM (n := 30) (vs := [.slice A bs.length c]) Tryd.func14 rfl (by kernel_rfl) (by simp) ?_
  repeat refine Pl.V_seq ?_
  refine Pl.V_region (by kernel_rfl) ?_
  refine Pl.qA_al (z := .slice none 0 0) (by kernel_rfl) rfl rfl rfl rfl (fun Y hY => trivial) ?_
  intro N1 w1 hE1 hN_N1 k_N1_0
  have z_N1 := Pl.Cb.lt k_N1_0
  have sz1 := Pl.Ex.size hE1
  replace k_N1_0 : Pl.Cb w1 N1 29 [.slice none 0 0] := k_N1_0
  refine Pl.qA_al (z := .int .i64 0) (by kernel_rfl) rfl rfl rfl rfl (fun Y hY => trivial) ?_
  intro N2 w2 hE2 hN_N2 k_N2_0
  have z_N2 := Pl.Cb.lt k_N2_0
  have sz2 := Pl.Ex.size hE2
  replace k_N2_0 : Pl.Cb w2 N2 3 [.int .i64 0] := k_N2_0
  refine Pl.qA_al (z := .int .i64 0) (by kernel_rfl) rfl rfl rfl rfl (fun Y hY => trivial) ?_
  intro N3 w3 hE3 hN_N3 k_N3_0
  have z_N3 := Pl.Cb.lt k_N3_0
  have sz3 := Pl.Ex.size hE3
  replace k_N3_0 : Pl.Cb w3 N3 26 [.int .i64 0] := k_N3_0
  refine Pl.pA_end ?_
  repeat refine Pl.V_seq ?_
  refine Pl.V_region (by kernel_rfl) ?_
  refine Pl.qA_al (z := .slice none 0 0) (by kernel_rfl) rfl rfl rfl rfl (fun Y hY => trivial) ?_
  intro N4 w4 hE4 hN_N4 k_N4_0
  have z_N4 := Pl.Cb.lt k_N4_0
  have sz4 := Pl.Ex.size hE4
  replace k_N4_0 : Pl.Cb w4 N4 29 [.slice none 0 0] := k_N4_0
  refine Pl.pA_end ?_
  repeat refine Pl.V_seq ?_
  refine Pl.V_region (by kernel_rfl) ?_
  refine Pl.qA_al (z := .int .i64 0) (by kernel_rfl) rfl rfl rfl rfl (fun Y hY => trivial) ?_
  intro N5 w5 hE5 hN_N5 k_N5_0
  have z_N5 := Pl.Cb.lt k_N5_0
  have sz5 := Pl.Ex.size hE5
  replace k_N5_0 : Pl.Cb w5 N5 3 [.int .i64 0] := k_N5_0
  refine Pl.qA_s1 (j := 0) (u := .int .i64 0) k_N5_0 (by decide) (by kernel_rfl) rfl rfl rfl rfl rfl rfl rfl rfl (fun Y hY => trivial) ?_
  intro w6 hX6 k_N5_1
  have hE6 := Pl.Ex.xs hE5 hX6 (by omega)
  replace k_N5_1 : Pl.Cb w6 N5 3 [.int .i64 0] := k_N5_1
  have sz6 := Pl.Xs.size hX6
  refine Pl.pA_end ?_
  repeat refine Pl.V_seq ?_
  refine Pl.V_region (by kernel_rfl) ?_
  refine Pl.qA_go trivial rfl ?_
  refine Pl.pA_call rfl rfl rfl rfl rfl (fun u X => Pl.enters Tryd.func28 (by kernel_rfl) rfl u X) ?_
  refine Calls.mono (records_calls _ (By.ex h (Pl.Ex.trans hE1 (Pl.Ex.trans hE2 (Pl.Ex.trans hE3 (Pl.Ex.trans hE4 hE6)))))) ?_
  rintro e w7 ⟨N0, rfl, hN_N0, k_N0_0, hE7⟩
  have z_N0 := Pl.Cb.lt k_N0_0
  have sz7 := Pl.Ex.size hE7
  refine ⟨_, rfl, trivial, ?_⟩
  refine Pl.pA_end ?_
  repeat refine Pl.V_seq ?_
  refine Pl.V_block ?_
  repeat refine Pl.V_seq ?_
  refine Pl.V_sub [(2, .pointer (some ⟨N1, 0, none⟩)), (3, .pointer (some ⟨N2, 0, none⟩)), (4, .pointer (some ⟨N3, 0, none⟩)), (5, .pointer (some ⟨N4, 0, none⟩)), (6, .pointer (some ⟨N5, 0, none⟩)), (11, .func (.func 34) #[] #[.pointer (some ⟨N0, 0, none⟩)])] (Pl.subl_cons rfl (Pl.subl_cons rfl (Pl.subl_cons rfl (Pl.subl_cons rfl (Pl.subl_cons rfl (Pl.subl_cons rfl Pl.subl_nil)))))) ?_
  have q_N1 := (Pl.Cb.ex k_N1_0 (Pl.Ex.trans hE2 (Pl.Ex.trans hE3 (Pl.Ex.trans hE4 (Pl.Ex.trans hE6 hE7)))))
  have q_N2 := (Pl.Cb.ex k_N2_0 (Pl.Ex.trans hE3 (Pl.Ex.trans hE4 (Pl.Ex.trans hE6 hE7))))
  have q_N3 := (Pl.Cb.ex k_N3_0 (Pl.Ex.trans hE4 (Pl.Ex.trans hE6 hE7)))
  have q_N4 := (Pl.Cb.ex k_N4_0 (Pl.Ex.trans hE6 hE7))
  have q_N5 := (Pl.Cb.ex k_N5_1 hE7)
  have hE0 := (Pl.Ex.trans hE1 (Pl.Ex.trans hE2 (Pl.Ex.trans hE3 (Pl.Ex.trans hE4 (Pl.Ex.trans hE6 hE7)))))
  have szE := hE0.size
  have hord : w.heap.size ≤ N1 ∧ N1 < N2 ∧ N2 < N3 ∧ N3 < N4 ∧ N4 < N5 ∧ N5 < N0 ∧ N0 < w7.heap.size := by omega
  clear sz1 sz2 sz3 sz4 sz5 sz6 sz7
  repeat refine Pl.V_seq ?_
  refine Pl.V_range (gf := 34) (lb := [.pointer (some ⟨N0, 0, none⟩)]) rfl (fun u X => Pl.enters Tryd.func34 (by kernel_rfl) rfl u X) ?_
  intro fn tmps rec hrec hAg
  obtain ⟨D, hD⟩ : ∃ D, w7.heap.size = D := ⟨_, rfl⟩
  rw [hD]
  rw [hD] at hord hrec
  have hwD : w.heap.size ≤ D := by omega
  have hoD : N0 < D ∧ N1 < D ∧ N2 < D ∧ N3 < D ∧ N4 < D ∧ N5 < D := by omega
  have hE45 : Pl.Ex w7 ((w7.alloc (.deferred (some []))).alloc (.loop rec)) := Pl.Ex.trans (Pl.Ex.alloc _ _) (Pl.Ex.alloc _ _)
  have hL5 : Lq w D rec ((w7.alloc (.deferred (some []))).alloc (.loop rec)) := ⟨by rw [← hD]; have := World.alloc_heap_new (w7.alloc (.deferred (some []))) (.loop rec); rwa [World.size_alloc] at this, by rw [← hD]; exact (Below.heap_alloc _ _ _ (by simp)).trans (World.alloc_heap_new w7 _), Pl.Ex.trans hE0 hE45⟩
  generalize (w7.alloc (.deferred (some []))).alloc (.loop rec) = w0 at *
  refine Calls.mono (recs1_calls w0 (.slice A bs.length c) lo bs N0 (D + 1) (fun l q X => RJ w D rec (.slice A bs.length c) N0 N1 N2 N3 N4 N5 l q X) (fun l q k X => RX w D { rec with state := .done, pending := some .ret } N1 N2 N3 l q k X) ?h0 ?hJ ?hI ?hok ?herr) ?_
  case h0 => exact ⟨Pl.Cb.ex k_N0_0 hE45, Pl.Cb.ex q_N1 hE45, Pl.Cb.ex q_N2 hE45, Pl.Cb.ex q_N3 hE45, hL5, ⟨_, Pl.Cb.ex q_N4 hE45, ⟨rfl, .inl ⟨rfl, rfl⟩⟩⟩, Pl.Cb.ex q_N5 hE45, Nat.le_refl _⟩
  case hJ => exact fun l q X hj => ⟨hj.log, By.ex h hj.lq.ext, hg.ex hj.lq.ext⟩
  case hI => exact fun l q X Y hj k => hj.ex k
  clear q_N1 q_N2 q_N3 q_N4 q_N5 k_N0_0 hL5 hE45
  case hok =>
    intro ls q x m X hj hlt ho
    obtain ⟨hm0, hml⟩ := one_pos ho
    rw [List.length_drop] at hml
    obtain ⟨rv, r4, hG⟩ := hj.row
    obtain ⟨Ar, cr, rfl, hcr⟩ := Pl.Gr.shp hG
    have hlr := Pl.Gr.lies hG
    refine YW.of hrec hj.lq.loop rfl ?_
    refine Pl.round_of (Pl.Ag.round2 hAg (by decide) (by decide) _ _) ?_
    have hlD := hj.lq.lt
    have hlen := hj.len
    repeat refine Pl.VI_seq ?_
    refine Pl.VI_region (by kernel_rfl) ?_
    refine Pl.qA_al (z := .agg #[.string ⟨#[]⟩, .string ⟨#[]⟩, .int .i64 0]) (by kernel_rfl) rfl rfl rfl rfl (fun Y hY => trivial) ?_
    intro N1 w1 hE1 hN_N1 k_N1_0
    have z_N1 := Pl.Cb.lt k_N1_0
    have sz1 := Pl.Ex.size hE1
    replace k_N1_0 : Pl.Cb w1 N1 56 [.string ⟨#[]⟩, .string ⟨#[]⟩, .int .i64 0] := k_N1_0
    refine Pl.qA_sw (new := [.string (mkS x.1), .string (mkS x.2), .int .i64 (((q + m) : Nat) : Int)]) k_N1_0 (by kernel_rfl) rfl (by simp [Value.oneCell']) rfl rfl rfl rfl rfl rfl (fun Y hY => trivial) ?_
    intro w2 hX2 k_N1_1
    have hE2 := Pl.Ex.xs hE1 hX2 (by omega)
    have sz2 := Pl.Xs.size hX2
    refine Pl.pA_end ?_
    repeat refine Pl.VI_seq ?_
    refine Pl.VI_region (by kernel_rfl) ?_
    refine Pl.qA_go trivial rfl ?_
    refine Pl.pA_end ?_
    have hj2 := hj.ex hE2
    have hLb := hj2.lq.put hwD { rec with state := .busy }
    have xb := Xs.putObj w2 (D + 1) (.loop { rec with state := .busy })
    have hj3 := hj2.put hwD hoD xb hLb
    have k7 := Pl.Cb.xs k_N1_1 xb (by simp; omega)
    replace r4 := Pl.Cb.xs (Pl.Cb.ex r4 hE2) xb (by simp; omega)
    replace hG := Ge.xs (Pl.Gr.ex hG hE2) xb (by simp)
    refine Pl.VI_end fun a2 ha2 => ⟨_, _, ha2, run_beginRound hj2.lq.loop (by rw [hrec]), ?_⟩
    have szb := xb.size
    generalize w2.putObj (D + 1) (.loop { rec with state := .busy }) = w3 at *
    clear hj2 hLb
    repeat refine Pl.VI_seq ?_
    refine Pl.VI_block ?_
    repeat refine Pl.VI_seq ?_
    refine Pl.VI_region (by kernel_rfl) ?_
    refine Pl.qA_al (z := .agg #[.int .i64 0]) (by kernel_rfl) rfl rfl rfl rfl (fun Y hY => trivial) ?_
    intro N2 w4 hE4 hN_N2 k_N2_0
    have z_N2 := Pl.Cb.lt k_N2_0
    have sz4 := Pl.Ex.size hE4
    replace k_N2_0 : Pl.Cb w4 N2 60 [.int .i64 0] := k_N2_0
    refine Pl.pA_end ?_
    repeat refine Pl.VI_seq ?_
    refine Pl.VI_region (by kernel_rfl) ?_
    refine Pl.qA_go trivial rfl ?_
    refine Pl.qA_ev (.iface 62 (.pointer (some ⟨N2, 0, none⟩))) trivial rfl rfl rfl rfl (fun X => by kernel_rfl) ?_
    refine Pl.pA_call rfl rfl rfl rfl rfl (fun u X => Pl.enters Tryd.func29 (by kernel_rfl) rfl u X) ?_
    refine Calls.mono (as_nilE _) ?_
    rintro e w5 ⟨rfl, hE5⟩
    have sz5 := Pl.Ex.size hE5
    refine ⟨_, rfl, trivial, ?_⟩
    refine Pl.pA_end ?_
    repeat refine Pl.VI_seq ?_
    refine Pl.VI_false rfl ?_
    repeat refine Pl.VI_seq ?_
    refine Pl.VI_skip ?_
    repeat refine Pl.VI_seq ?_
    have hj4 := hj3.ex (Pl.Ex.trans hE4 hE5)
    have k7b := (Pl.Cb.ex k7 (Pl.Ex.trans hE4 hE5))
    replace r4 := Pl.Cb.ex r4 (Pl.Ex.trans hE4 hE5)
    replace hG := Pl.Gr.ex hG (Pl.Ex.trans hE4 hE5)
    clear hj3 k7 xb
    refine Pl.VI_drawG (S := fun X => Pl.Cb X N1 56 [.string (mkS x.1), .string (mkS x.2), .int .i64 (((q + m) : Nat) : Int)]) fo Pl.lets_rnd (by kernel_rfl) (Pl.Cb.ex k7b (Pl.Ex.drew _)) ?_
    have hEd := Pl.Ex.drew w5
    have szd := hEd.size
    have hj5 := hj4.ex hEd
    generalize w5.drew = w6 at *
    intro hS
    clear hj4
    obtain ⟨rlog, r1, r2, r3, hL, -, r5, hle⟩ := hj5
    replace r4 := Pl.Cb.ex r4 hEd
    replace hG : Ge w6 (D + 2) (.slice Ar ls.length cr) ls := Pl.Gr.ex hG hEd
    refine Pl.GI_plan [(true, 1, 0), (true, 2, 2), (true, 5, 6), (true, 6, 38)] 102 5 Pl.pan_rnd (by kernel_rfl) (by kernel_rfl) (by kernel_rfl) ?_
    refine Pl.qA_ev (.pointer (some ⟨N1, 0, none⟩)) hS rfl rfl rfl rfl (fun X => by kernel_rfl) ?_
    refine Pl.qA_lr (part := [.string (mkS x.1), .string (mkS x.2)]) (fun X hX => hX) rfl Tryd.underlying24 rfl (by kernel_rfl) hS rfl rfl rfl rfl rfl ?_
    refine Pl.qA_ev (.pointer (some ⟨N1, 2, none⟩)) hS rfl rfl rfl rfl (fun X => by kernel_rfl) ?_
    refine Pl.qA_lc (v := .int .i64 (((q + m) : Nat) : Int)) Tryd.underlying3 rfl (fun X hX => Pl.Cb.at (j := 2) hX rfl) hS rfl rfl rfl rfl rfl ?_
    refine Pl.pA_end ?_
    refine Pl.GI_any [0, 3] 4 (by kernel_rfl) (by kernel_rfl) (by kernel_rfl) (Pl.AllG_cons ?_ (Pl.AllG_cons ?_ Pl.AllG_nil))
    · refine Pl.qA_lcw (v := .slice Ar ls.length cr) Tryd.underlying29 rfl (Pl.Cb.at (j := 0) r4 rfl) hS rfl rfl rfl rfl rfl ?_
      refine Pl.pA_end ?_
      refine Pl.GI_plan [(false, 3, 103), (false, 4, 111), (false, 7, 127), (false, 8, 255)] 511 0 Pl.pan_rnd (by kernel_rfl) (by kernel_rfl) (by kernel_rfl) ?_
      refine Pl.qA_bs (e := 24) (n := 1) [.string (mkS x.1), .string (mkS x.2)] rfl rfl rfl rfl (by kernel_rfl) (fun Y hY => Pl.Cb.ex hS hY) ?_
      intro Nb wP hEP hNb kb
      have szP := hEP.size
      have hSP := Pl.Cb.ex hS hEP
      have hsrc : Src Tryd.prog 2 29 (.slice (some ⟨Nb, 0, none⟩) 1 1) 1 [.string (mkS x.1), .string (mkS x.2)] wP := Pl.Sl.src (Pl.Sl.ofCb (s := 2) kb (by omega)) rfl Tryd.underlying29 (by simp [Value.oneCell']) (by decide)
      refine Pl.qA_gr (e := 24) (bytes := 32) (z := .agg #[.string ⟨#[]⟩, .string ⟨#[]⟩]) (tx := 29) (news := [.string (mkS x.1), .string (mkS x.2)]) (Pl.Gr.ex hG hEP) hsrc Tryd.underlying29 (by kernel_rfl) rfl (fun _ _ => trivial) (fun _ _ => trivial) (by omega) (by decide) (by have := hL.lt; omega) rfl rfl rfl rfl rfl rfl (fun Y hY => Pl.Cb.xs hSP (Xs.of_grownBy hY) (fun hm => by have := hlr N1 (Option.mem_toList.1 hm); have := Pl.Cb.lt k7b; omega)) ?_
      intro v7 wQ hG7 hgr
      have x7 := Xs.of_grownBy hgr
      clear hgr
      obtain ⟨A7, c7, rfl, hc7⟩ := Pl.Gr.shp hG7
      have hnr : ∀ N, (N < D + 2 ∨ w6.heap.size ≤ N) → N ∉ (Value.slice Ar ls.length cr).ownBlock.toList := fun N hN hm => by have := hlr N (Option.mem_toList.1 hm); omega
      have y7 : Pl.Xs (Value.slice Ar ls.length cr).ownBlock.toList w6 wQ := (Pl.Xs.ex hEP).trans x7
      have hSQ := Pl.Cb.xs hSP x7 (fun hm => by have := hlr N1 (Option.mem_toList.1 hm); have := Pl.Cb.lt k7b; omega)
      have hG7b : Ge wQ (D + 2) (.slice A7 (ls.length + 1) c7) (ls ++ [x]) := by unfold Ge; rw [cE_snoc, List.length_append]; exact hG7
      refine Pl.qA_s1 (j := 0) (u := .slice A7 (ls.length + 1) c7) (Pl.Cb.xs r4 y7 (hnr N4 (by omega))) (Nat.succ_pos _) (by kernel_rfl) rfl rfl rfl rfl rfl rfl rfl rfl (fun Y hY => Pl.Cb.xs hSQ hY (by simp; omega)) ?_
      intro wR x8 k8
      have hSR := Pl.Cb.xs hSQ x8 (by simp; omega)
      refine Pl.qA_s1 (j := 0) (u := .int .i64 ((q + m : Nat) : Int)) (Pl.Cb.xs (Pl.Cb.xs r5 y7 (hnr N5 (by omega))) x8 (by simp; omega)) (Nat.succ_pos _) (by kernel_rfl) rfl rfl rfl rfl rfl rfl rfl rfl (fun Y hY => Pl.Cb.xs hSR hY (by simp; omega)) ?_
      intro wS x9 k9
      refine Pl.pA_end ?_
      refine Pl.G_VI (by kernel_rfl) ?_
      have y9 : Pl.Xs (N4 :: N5 :: (Value.slice Ar ls.length cr).ownBlock.toList) w6 wS := ((y7.drop (by simp +contextual)).trans (x8.drop (by simp))).trans (x9.drop (by simp))
      have nin : ∀ N, N < D + 2 → N ≠ N4 → N ≠ N5 → N ∉ (N4 :: N5 :: (Value.slice Ar ls.length cr).ownBlock.toList) := fun N h1 h2 h3 => by rw [List.mem_cons, List.mem_cons]; rintro (h | h | h) <;> first | exact h2 h | exact h3 h | exact hnr N (.inl h1) h
      have hL9 := hL.xs y9 (fun k hk => by rw [List.mem_cons, List.mem_cons] at hk; rcases hk with rfl | rfl | hk <;> first | omega | (have := hlr k (Option.mem_toList.1 hk); omega))
      refine Pl.VI_endblock ?_
      refine Pl.VI_end fun a3 ha3 => ?_
      obtain ⟨vz, Xz, hrz, rfl, hLz, xz⟩ := Lq.fin (P := Tryd.prog) hL9 hwD (by rw [hrec]) (by rw [hrec])
      refine ⟨_, _, hrz, rfl, ?_⟩
      exact ⟨(Pl.Cb.xs (rlog.xs y9 (nin _ (by omega) (by omega) (by omega))) xz (by simp; omega)), (Pl.Cb.xs (r1.xs y9 (nin _ (by omega) (by omega) (by omega))) xz (by simp; omega)), (Pl.Cb.xs (r2.xs y9 (nin _ (by omega) (by omega) (by omega))) xz (by simp; omega)), (Pl.Cb.xs (r3.xs y9 (nin _ (by omega) (by omega) (by omega))) xz (by simp; omega)), hLz, ⟨_, Pl.Cb.xs (Pl.Cb.xs k8 x9 (by simp; omega)) xz (by simp; omega), Ge.xs (Ge.xs (Ge.xs hG7b x8 (by simp; omega)) x9 (by simp; omega)) xz (by simp)⟩, k9.xs xz (by simp; omega), by rw [List.length_append]; simp; omega⟩
    · refine Pl.qA_bs (e := 24) (n := 1) [.string (mkS x.1), .string (mkS x.2)] rfl rfl rfl rfl (by kernel_rfl) (fun Y hY => Pl.Cb.ex hS hY) ?_
      intro Nb wP hEP hNb kb
      have szP := hEP.size
      have hSP := Pl.Cb.ex hS hEP
      refine Pl.pA_end ?_
      refine Pl.GI_plan [(false, 0, 110), (false, 4, 111), (false, 7, 127), (false, 8, 255)] 511 0 Pl.pan_rnd (by kernel_rfl) (by kernel_rfl) (by kernel_rfl) ?_
      refine Pl.qA_lcw (v := .slice Ar ls.length cr) Tryd.underlying29 rfl (Pl.Cb.at (j := 0) (Pl.Cb.ex r4 hEP) rfl) hSP rfl rfl rfl rfl rfl ?_
      have hsrc : Src Tryd.prog 2 29 (.slice (some ⟨Nb, 0, none⟩) 1 1) 1 [.string (mkS x.1), .string (mkS x.2)] wP := Pl.Sl.src (Pl.Sl.ofCb (s := 2) kb (by omega)) rfl Tryd.underlying29 (by simp [Value.oneCell']) (by decide)
      refine Pl.qA_gr (e := 24) (bytes := 32) (z := .agg #[.string ⟨#[]⟩, .string ⟨#[]⟩]) (tx := 29) (news := [.string (mkS x.1), .string (mkS x.2)]) (Pl.Gr.ex hG hEP) hsrc Tryd.underlying29 (by kernel_rfl) rfl (fun _ _ => trivial) (fun _ _ => trivial) (by omega) (by decide) (by have := hL.lt; omega) rfl rfl rfl rfl rfl rfl (fun Y hY => Pl.Cb.xs hSP (Xs.of_grownBy hY) (fun hm => by have := hlr N1 (Option.mem_toList.1 hm); have := Pl.Cb.lt k7b; omega)) ?_
      intro v7 wQ hG7 hgr
      have x7 := Xs.of_grownBy hgr
      clear hgr
      obtain ⟨A7, c7, rfl, hc7⟩ := Pl.Gr.shp hG7
      have hnr : ∀ N, (N < D + 2 ∨ w6.heap.size ≤ N) → N ∉ (Value.slice Ar ls.length cr).ownBlock.toList := fun N hN hm => by have := hlr N (Option.mem_toList.1 hm); omega
      have y7 : Pl.Xs (Value.slice Ar ls.length cr).ownBlock.toList w6 wQ := (Pl.Xs.ex hEP).trans x7
      have hSQ := Pl.Cb.xs hSP x7 (fun hm => by have := hlr N1 (Option.mem_toList.1 hm); have := Pl.Cb.lt k7b; omega)
      have hG7b : Ge wQ (D + 2) (.slice A7 (ls.length + 1) c7) (ls ++ [x]) := by unfold Ge; rw [cE_snoc, List.length_append]; exact hG7
      refine Pl.qA_s1 (j := 0) (u := .slice A7 (ls.length + 1) c7) (Pl.Cb.xs r4 y7 (hnr N4 (by omega))) (Nat.succ_pos _) (by kernel_rfl) rfl rfl rfl rfl rfl rfl rfl rfl (fun Y hY => Pl.Cb.xs hSQ hY (by simp; omega)) ?_
      intro wR x8 k8
      have hSR := Pl.Cb.xs hSQ x8 (by simp; omega)
      refine Pl.qA_s1 (j := 0) (u := .int .i64 ((q + m : Nat) : Int)) (Pl.Cb.xs (Pl.Cb.xs r5 y7 (hnr N5 (by omega))) x8 (by simp; omega)) (Nat.succ_pos _) (by kernel_rfl) rfl rfl rfl rfl rfl rfl rfl rfl (fun Y hY => Pl.Cb.xs hSR hY (by simp; omega)) ?_
      intro wS x9 k9
      refine Pl.pA_end ?_
      refine Pl.G_VI (by kernel_rfl) ?_
      have y9 : Pl.Xs (N4 :: N5 :: (Value.slice Ar ls.length cr).ownBlock.toList) w6 wS := ((y7.drop (by simp +contextual)).trans (x8.drop (by simp))).trans (x9.drop (by simp))
      have nin : ∀ N, N < D + 2 → N ≠ N4 → N ≠ N5 → N ∉ (N4 :: N5 :: (Value.slice Ar ls.length cr).ownBlock.toList) := fun N h1 h2 h3 => by rw [List.mem_cons, List.mem_cons]; rintro (h | h | h) <;> first | exact h2 h | exact h3 h | exact hnr N (.inl h1) h
      have hL9 := hL.xs y9 (fun k hk => by rw [List.mem_cons, List.mem_cons] at hk; rcases hk with rfl | rfl | hk <;> first | omega | (have := hlr k (Option.mem_toList.1 hk); omega))
      refine Pl.VI_endblock ?_
      refine Pl.VI_end fun a3 ha3 => ?_
      obtain ⟨vz, Xz, hrz, rfl, hLz, xz⟩ := Lq.fin (P := Tryd.prog) hL9 hwD (by rw [hrec]) (by rw [hrec])
      refine ⟨_, _, hrz, rfl, ?_⟩
      exact ⟨(Pl.Cb.xs (rlog.xs y9 (nin _ (by omega) (by omega) (by omega))) xz (by simp; omega)), (Pl.Cb.xs (r1.xs y9 (nin _ (by omega) (by omega) (by omega))) xz (by simp; omega)), (Pl.Cb.xs (r2.xs y9 (nin _ (by omega) (by omega) (by omega))) xz (by simp; omega)), (Pl.Cb.xs (r3.xs y9 (nin _ (by omega) (by omega) (by omega))) xz (by simp; omega)), hLz, ⟨_, Pl.Cb.xs (Pl.Cb.xs k8 x9 (by simp; omega)) xz (by simp; omega), Ge.xs (Ge.xs (Ge.xs hG7b x8 (by simp; omega)) x9 (by simp; omega)) xz (by simp)⟩, k9.xs xz (by simp; omega), by rw [List.length_append]; simp; omega⟩
  case herr =>
    intro ls q n t cc X hj hlt hcc hre
    refine YW.of hrec hj.lq.loop rfl ?_
    refine Pl.round_of (Pl.Ag.round2 hAg (by decide) (by decide) _ _) ?_
    have hlD := hj.lq.lt
    have hlen := hj.len
    repeat refine Pl.VI_seq ?_
    refine Pl.VI_region (by kernel_rfl) ?_
    refine Pl.qA_al (z := .agg #[.string ⟨#[]⟩, .string ⟨#[]⟩, .int .i64 0]) (by kernel_rfl) rfl rfl rfl rfl (fun Y hY => trivial) ?_
    intro N1 w1 hE1 hN_N1 k_N1_0
    have z_N1 := Pl.Cb.lt k_N1_0
    have sz1 := Pl.Ex.size hE1
    replace k_N1_0 : Pl.Cb w1 N1 56 [.string ⟨#[]⟩, .string ⟨#[]⟩, .int .i64 0] := k_N1_0
    refine Pl.qA_sw (new := [.string n, .string t, .int .i64 (((q + 0) : Nat) : Int)]) k_N1_0 (by kernel_rfl) rfl (by simp [Value.oneCell']) rfl rfl rfl rfl rfl rfl (fun Y hY => trivial) ?_
    intro w2 hX2 k_N1_1
    have hE2 := Pl.Ex.xs hE1 hX2 (by omega)
    have sz2 := Pl.Xs.size hX2
    refine Pl.pA_end ?_
    repeat refine Pl.VI_seq ?_
    refine Pl.VI_region (by kernel_rfl) ?_
    refine Pl.qA_go trivial rfl ?_
    refine Pl.pA_end ?_
    have hj2 := hj.ex hE2
    have hLb := hj2.lq.put hwD { rec with state := .busy }
    have xb := Xs.putObj w2 (D + 1) (.loop { rec with state := .busy })
    have hj3 := hj2.put hwD hoD xb hLb
    have k7 := Pl.Cb.xs k_N1_1 xb (by simp; omega)
    refine Pl.VI_end fun a2 ha2 => ⟨_, _, ha2, run_beginRound hj2.lq.loop (by rw [hrec]), ?_⟩
    have szb := xb.size
    generalize w2.putObj (D + 1) (.loop { rec with state := .busy }) = w3 at *
    clear hj2 hLb
    repeat refine Pl.VI_seq ?_
    refine Pl.VI_block ?_
    repeat refine Pl.VI_seq ?_
    refine Pl.VI_region (by kernel_rfl) ?_
    refine Pl.qA_al (z := .agg #[.int .i64 0]) (by kernel_rfl) rfl rfl rfl rfl (fun Y hY => trivial) ?_
    intro N2 w4 hE4 hN_N2 k_N2_0
    have z_N2 := Pl.Cb.lt k_N2_0
    have sz4 := Pl.Ex.size hE4
    replace k_N2_0 : Pl.Cb w4 N2 60 [.int .i64 0] := k_N2_0
    refine Pl.pA_end ?_
    repeat refine Pl.VI_seq ?_
    refine Pl.VI_region (by kernel_rfl) ?_
    refine Pl.qA_go trivial rfl ?_
    refine Pl.qA_ev (.iface 62 (.pointer (some ⟨N2, 0, none⟩))) trivial rfl rfl rfl rfl (fun X => by kernel_rfl) ?_
    refine Pl.pA_call rfl rfl rfl rfl rfl (fun u X => Pl.enters Tryd.func29 (by kernel_rfl) rfl u X) ?_
    refine Calls.mono (as_hit N2 ((cc : Nat) : Int) 0 (hg.ex (hj3.ex hE4).lq.ext) k_N2_0) ?_
    rintro e wA ⟨rfl, xA, kA⟩
    have hEA := Pl.Ex.xs hE4 xA (by omega)
    have szA := hEA.size
    refine ⟨_, rfl, trivial, ?_⟩
    refine Pl.pA_end ?_
    repeat refine Pl.VI_seq ?_
    refine Pl.VI_true rfl ?_
    repeat refine Pl.VI_seq ?_
    have hj4 := hj3.ex hEA
    clear hj3 k7 xb
    have hEd := Pl.Ex.drew wA
    have szd := hEd.size
    have hj5 := hj4.ex hEd
    have kA2 := Pl.Cb.ex kA hEd
    clear hj4
    obtain ⟨rlog, r1, r2, r3, hL, ⟨rv, r4, hG⟩, r5, hle⟩ := hj5
    obtain ⟨Ar, cr, rfl, hcr⟩ := Pl.Gr.shp hG
    refine Pl.VI_draw (S := fun X => Pl.Cb X N4 29 [.slice Ar ls.length cr] ∧ Pl.Cb X N5 3 [.int .i64 ((q : Nat) : Int)] ∧ Pl.Cb X N2 60 [.int .i64 ((cc : Nat) : Int)]) [(true, 0, 0), (true, 1, 1), (true, 2, 3), (true, 3, 7), (false, 4, 15), (false, 5, 31), (false, 6, 63)] fo Pl.pan_rnd Pl.lets_rnd (by kernel_rfl) (by kernel_rfl) ⟨r4, r5, kA2⟩ ?_
    generalize wA.drew = wB at *
    intro hS
    refine Pl.qA_lc (v := .slice Ar ls.length cr) Tryd.underlying29 rfl (fun X hX => Pl.Cb.at (j := 0) hX.1 rfl) hS rfl rfl rfl rfl rfl ?_
    refine Pl.qA_lc (v := .int .i64 ((q : Nat) : Int)) Tryd.underlying3 rfl (fun X hX => Pl.Cb.at (j := 0) hX.2.1 rfl) hS rfl rfl rfl rfl rfl ?_
    refine Pl.qA_ev (.pointer (some ⟨N2, 0, none⟩)) hS rfl rfl rfl rfl (fun X => by kernel_rfl) ?_
    refine Pl.qA_lc (v := .int .i64 ((cc : Nat) : Int)) Tryd.underlying26 rfl (fun X hX => Pl.Cb.at (j := 0) hX.2.2 rfl) hS rfl rfl rfl rfl rfl ?_
    refine Pl.qA_s1 (j := 0) (u := .slice Ar ls.length cr) r1 (Nat.succ_pos _) (by kernel_rfl) rfl rfl rfl rfl rfl rfl rfl rfl (fun Y hY => ⟨Pl.Cb.xs hS.1 hY (by simp; omega), Pl.Cb.xs hS.2.1 hY (by simp; omega), Pl.Cb.xs hS.2.2 hY (by simp; omega)⟩) ?_
    intro w21 x21 k21
    have hS21 : Pl.Cb w21 N4 29 [.slice Ar ls.length cr] ∧ Pl.Cb w21 N5 3 [.int .i64 ((q : Nat) : Int)] ∧ Pl.Cb w21 N2 60 [.int .i64 ((cc : Nat) : Int)] := ⟨Pl.Cb.xs hS.1 x21 (by simp; omega), Pl.Cb.xs hS.2.1 x21 (by simp; omega), Pl.Cb.xs hS.2.2 x21 (by simp; omega)⟩
    refine Pl.qA_s1 (j := 0) (u := .int .i64 ((q : Nat) : Int)) (Pl.Cb.xs r2 x21 (by simp; omega)) (Nat.succ_pos _) (by kernel_rfl) rfl rfl rfl rfl rfl rfl rfl rfl (fun Y hY => ⟨Pl.Cb.xs hS21.1 hY (by simp; omega), Pl.Cb.xs hS21.2.1 hY (by simp; omega), Pl.Cb.xs hS21.2.2 hY (by simp; omega)⟩) ?_
    intro w22 x22 k22
    have hS22 : Pl.Cb w22 N4 29 [.slice Ar ls.length cr] ∧ Pl.Cb w22 N5 3 [.int .i64 ((q : Nat) : Int)] ∧ Pl.Cb w22 N2 60 [.int .i64 ((cc : Nat) : Int)] := ⟨Pl.Cb.xs hS21.1 x22 (by simp; omega), Pl.Cb.xs hS21.2.1 x22 (by simp; omega), Pl.Cb.xs hS21.2.2 x22 (by simp; omega)⟩
    refine Pl.qA_s1 (j := 0) (u := .int .i64 ((cc : Nat) : Int)) (Pl.Cb.xs (Pl.Cb.xs r3 x21 (by simp; omega)) x22 (by simp; omega)) (Nat.succ_pos _) (by kernel_rfl) rfl rfl rfl rfl rfl rfl rfl rfl (fun Y hY => ⟨Pl.Cb.xs hS22.1 hY (by simp; omega), Pl.Cb.xs hS22.2.1 hY (by simp; omega), Pl.Cb.xs hS22.2.2 hY (by simp; omega)⟩) ?_
    intro w23 x23 k23
    have hS23 : Pl.Cb w23 N4 29 [.slice Ar ls.length cr] ∧ Pl.Cb w23 N5 3 [.int .i64 ((q : Nat) : Int)] ∧ Pl.Cb w23 N2 60 [.int .i64 ((cc : Nat) : Int)] := ⟨Pl.Cb.xs hS22.1 x23 (by simp; omega), Pl.Cb.xs hS22.2.1 x23 (by simp; omega), Pl.Cb.xs hS22.2.2 x23 (by simp; omega)⟩
    refine Pl.pA_end ?_
    have hL23 := ((hL.xs x21 (by simp; omega)).xs x22 (by simp; omega)).xs x23 (by simp; omega)
    have hG23 := Ge.xs (Ge.xs (Ge.xs hG x21 (by simp; omega)) x22 (by simp; omega)) x23 (by simp; omega)
    repeat refine Pl.VI_seq ?_
    refine Pl.VI_ret fun a3 ha3 => ?_
    obtain ⟨vz, Xz, hrz, rfl, hLz, xz⟩ := Lq.finBy (P := Tryd.prog) hL23 hwD .ret
    refine ⟨_, _, hrz, rfl, ?_⟩
    exact ⟨hLz, ⟨_, Pl.Cb.xs (Pl.Cb.xs (Pl.Cb.xs k21 x22 (by simp; omega)) x23 (by simp; omega)) xz (by simp; omega), Ge.xs hG23 xz (by simp)⟩, Pl.Cb.xs (Pl.Cb.xs k22 x23 (by simp; omega)) xz (by simp; omega), k23.xs xz (by simp; omega), by omega⟩
  rintro e w7 ⟨rfl, (⟨ls, hj, hrd⟩ | ⟨ls, q, cc, hx, hrd, hcc⟩)⟩
  · refine ⟨_, rec, rfl, hj.lq.loop, by rw [hrec]; simp, ?_⟩
    have hL7 := hj.lq.put hwD { rec with state := .exhausted }
    have x7 := Xs.putObj w7 (D + 1) (.loop { rec with state := .exhausted })
    have hj7 := hj.put hwD hoD x7 hL7
    clear hj hL7 x7
    rw [hrec]
    dsimp only
    rw [hrec] at hj7
    generalize w7.putObj (D + 1) _ = w8 at *
    refine Pl.V_endblock ?_
    repeat refine Pl.V_seq ?_
    have hEd := Pl.Ex.drew w8
    have hj8 := hj7.ex hEd
    clear hj7
    obtain ⟨rlog, r1, r2, r3, hL, ⟨rv, r4, hG⟩, r5, hle⟩ := hj8
    obtain ⟨Ar, cr, rfl, hcr⟩ := Pl.Gr.shp hG
    refine Pl.V_draw (S := fun X => Pl.Cb X N4 29 [.slice Ar ls.length cr] ∧ Pl.Cb X N5 3 [.int .i64 ((bs.length : Nat) : Int)]) [(true, 0, 0), (true, 1, 1), (false, 2, 3), (false, 3, 7), (false, 4, 15)] fo Pl.postM_panic (by kernel_rfl) ⟨r4, r5⟩ ?_
    generalize w8.drew = w9 at *
    intro hS
    refine Pl.qA_lc (v := .slice Ar ls.length cr) Tryd.underlying29 rfl (fun X hX => Pl.Cb.at (j := 0) hX.1 rfl) hS rfl rfl rfl rfl rfl ?_
    refine Pl.qA_lc (v := .int .i64 ((bs.length : Nat) : Int)) Tryd.underlying3 rfl (fun X hX => Pl.Cb.at (j := 0) hX.2 rfl) hS rfl rfl rfl rfl rfl ?_
    refine Pl.qA_s1 (j := 0) (u := .slice Ar ls.length cr) r1 (Nat.succ_pos _) (by kernel_rfl) rfl rfl rfl rfl rfl rfl rfl rfl (fun Y hY => ⟨Pl.Cb.xs hS.1 hY (by simp; omega), Pl.Cb.xs hS.2 hY (by simp; omega)⟩) ?_
    intro w21 x21 k21
    have hS21 : Pl.Cb w21 N4 29 [.slice Ar ls.length cr] ∧ Pl.Cb w21 N5 3 [.int .i64 ((bs.length : Nat) : Int)] := ⟨Pl.Cb.xs hS.1 x21 (by simp; omega), Pl.Cb.xs hS.2 x21 (by simp; omega)⟩
    refine Pl.qA_s1 (j := 0) (u := .int .i64 ((bs.length : Nat) : Int)) (Pl.Cb.xs r2 x21 (by simp; omega)) (Nat.succ_pos _) (by kernel_rfl) rfl rfl rfl rfl rfl rfl rfl rfl (fun Y hY => ⟨Pl.Cb.xs hS21.1 hY (by simp; omega), Pl.Cb.xs hS21.2 hY (by simp; omega)⟩) ?_
    intro w22 x22 k22
    have hS22 : Pl.Cb w22 N4 29 [.slice Ar ls.length cr] ∧ Pl.Cb w22 N5 3 [.int .i64 ((bs.length : Nat) : Int)] := ⟨Pl.Cb.xs hS21.1 x22 (by simp; omega), Pl.Cb.xs hS21.2 x22 (by simp; omega)⟩
    refine Pl.qA_s1 (j := 0) (u := .int .i64 0) (Pl.Cb.xs (Pl.Cb.xs r3 x21 (by simp; omega)) x22 (by simp; omega)) (Nat.succ_pos _) (by kernel_rfl) rfl rfl rfl rfl rfl rfl rfl rfl (fun Y hY => ⟨Pl.Cb.xs hS22.1 hY (by simp; omega), Pl.Cb.xs hS22.2 hY (by simp; omega)⟩) ?_
    intro w23 x23 k23
    have hS23 : Pl.Cb w23 N4 29 [.slice Ar ls.length cr] ∧ Pl.Cb w23 N5 3 [.int .i64 ((bs.length : Nat) : Int)] := ⟨Pl.Cb.xs hS22.1 x23 (by simp; omega), Pl.Cb.xs hS22.2 x23 (by simp; omega)⟩
    refine Pl.pA_end ?_
    have hL23 := ((hL.xs x21 (by simp; omega)).xs x22 (by simp; omega)).xs x23 (by simp; omega)
    have hG23 := Ge.xs (Ge.xs (Ge.xs hG x21 (by simp; omega)) x22 (by simp; omega)) x23 (by simp; omega)
    repeat refine Pl.V_seq ?_
    have xz := Xs.putObj w23 D (.deferred none)
    have hGz := Ge.xs hG23 xz (by simp)
    exact Pl.postM_leave hL23.dfr (fun a ha => Pl.results_cs3 ha rfl rfl rfl rfl (Pl.cellOf1 (Pl.Cb.xs (Pl.Cb.xs (Pl.Cb.xs k21 x22 (by simp; omega)) x23 (by simp; omega)) xz (by simp; omega)) Tryd.underlying29 rfl) (Pl.cellOf1 (Pl.Cb.xs (Pl.Cb.xs k22 x23 (by simp; omega)) xz (by simp; omega)) Tryd.underlying3 rfl) (Pl.cellOf1 (Pl.Cb.xs k23 xz (by simp; omega)) Tryd.underlying26 rfl)) ⟨.slice Ar ls.length cr, by (simp only [hrd]) <;> rfl, by rw [hrd]; exact (Pl.Sl.mono (Pl.Gr.sl (n := ls.length) hGz (by omega)) (show w.heap.size ≤ D + 2 by omega) : Pl.Sl _ _ _ ls.length (cE ls)), Ex.xsl hL23.ext xz (by simp; omega)⟩
  · refine ⟨_, _, rfl, hx.lq.loop, by simp, ?_⟩
    have hL7 := hx.lq.put hwD { { rec with state := .done, pending := some .ret } with state := .exhausted }
    have x7 := Xs.putObj w7 (D + 1) (.loop { { rec with state := .done, pending := some .ret } with state := .exhausted })
    have hx7 := hx.put (by omega) x7 hL7
    dsimp only
    clear hx hL7 x7
    generalize w7.putObj (D + 1) _ = w8 at *
    obtain ⟨hL, ⟨rv, r1, hG⟩, r2, r3, hle⟩ := hx7
    obtain ⟨Ar, cr, rfl, hcr⟩ := Pl.Gr.shp hG
    have xz := Xs.putObj w8 D (.deferred none)
    have hGz := Ge.xs hG xz (by simp)
    exact Pl.postM_leaveIn hL.dfr (fun a ha => Pl.results_cs3 ha rfl rfl rfl rfl (Pl.cellOf1 (Pl.Cb.xs r1 xz (by simp; omega)) Tryd.underlying29 rfl) (Pl.cellOf1 (Pl.Cb.xs r2 xz (by simp; omega)) Tryd.underlying3 rfl) (Pl.cellOf1 (Pl.Cb.xs r3 xz (by simp; omega)) Tryd.underlying26 rfl)) ⟨.slice Ar ls.length cr, by (simp only [hrd]) <;> rfl, by rw [hrd]; exact (Pl.Sl.mono (Pl.Gr.sl (n := ls.length) hGz (by omega)) (show w.heap.size ≤ D + 2 by omega) : Pl.Sl _ _ _ ls.length (cE ls)), Ex.xsl hL.ext xz (by simp; omega)⟩
end Go.Proofs.YtmioaeaobefphaaDoor
