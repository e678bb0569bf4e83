/- Power. -/
import Derived.Test.YtbdmncpibnligaaGreatDoorBbf

namespace Go.Proofs.YtbdmncpibnligaaGreatDoor
open Go.RowKit 
set_option linter.unusedVariables false
set_option linter.unusedSimpArgs false
set_option maxRecDepth 100000
set_option maxHeartbeats 4000000
theorem pr_odd {q : Nat} (hp : Rt.Pr q) (h : q > 2) : q % 2 = 1 := by
  rcases Nat.mod_two_eq_zero_or_one q with h1 | h1
  · rcases hp.2 2 (Nat.dvd_of_mod_eq_zero h1) with e | e <;> omega
  · exact h1
theorem Pl.postM_ret2 {P : Program} {n : Nat} {cs : List Code} {l : List (Nat × Value)} {w : World} {fn : Func} {R : Ending → World → Prop} {t t2 : Tmp} {v v2 : Value} (hr : fn.results = #[.tmp t, .tmp t2]) (hv : Pl.look l t = some v) (hv2 : Pl.look l t2 = some v2) (h : R (.returned (.tuple #[v, v2])) w) :
    Pl.V P (Pl.postM P fn R) n [] (.ret :: cs) l w := Pl.V_ret fun a ha => by
  show LeavesInM Fence.wide 0 P fn a.tmps R a.defers .returning w
  rw [ha.defers]
  exact ⟨_, Pl.results_of2 hr hv hv2 a ha, h⟩
theorem gt_one {a : Nat} (h : ¬ blen a ≤ 1) : 1 < a := Nat.lt_of_not_le fun h9 => h (blen_one.2 h9)
theorem one_sl {w : World} {v : Value} {n : Nat} (h : Un w v n) : v.oneCell' = true := by obtain ⟨_, _, rfl, _⟩ := un_open h; rfl
theorem cells_sl {w : World} {v : Value} {n : Nat} (h : Un w v n) : v.cells = #[v] := by obtain ⟨_, _, rfl, _⟩ := un_open h; rfl
theorem sl_ne {w : World} {v : Value} {n : Nat} (h : Un w v n) (z : Int) : v ≠ .int .u32 z := by obtain ⟨_, _, rfl, _⟩ := un_open h; intro e; cases e
theorem Un.defs {X Y : World} {v : Value} {n M : Nat} {x : Option (List Deferred)} (h : Un X v n) (hM : X.heap[M]? = some (.deferred x)) (k : Pl.Xs [M] X Y) : Un Y v n := by
  obtain ⟨A, c, rfl, hc, hx, hr⟩ := h
  refine ⟨A, c, rfl, hc, hx, fun h0 => ?_⟩
  obtain ⟨ad, rfl, hlt, hcell⟩ := hr h0
  refine ⟨ad, rfl, Nat.lt_of_lt_of_le hlt k.size, fun j hj => ?_⟩
  have h1 := hcell j hj
  have hne : ad.block ≠ M := fun e => by
    unfold World.cell? at h1
    rw [addr_add_block, e, hM] at h1
    simp at h1
  rw [← h1]
  unfold World.cell?
  rw [addr_add_block, k.block _ hlt (by simpa using hne)]
theorem power_all (w : World) (va : Value) (a : Nat) (ha : Un w va a) (la : Sn a 300) (hb6 : blen a ≤ 660) :
    Calls Tryz.prog 18 #[va] w fun e w' => ∃ (u : Value) (b k : Nat), e = .returned (.tuple #[u, .int .i64 ((k : Nat) : Int)]) ∧ Un w' u b ∧ (a ≤ 1 ∧ b = a ∧ k = 1 ∨ 1 < a ∧ b ^ k = a ∧ Rt.Prim b ∧ 1 ≤ k) ∧ Pl.Ex w w' := by
  obtain ⟨A, c, rfl, -⟩ := un_open ha
  refine Pl.calls_byM (n := 70) (vs := [(.slice A (limbs a).length c)]) Tryz.func18 rfl (by kernel_rfl) (by simp) ?_
  have ha96 := la.blen
  repeat refine Pl.V_seq ?_
  refine Pl.V_region (by kernel_rfl) ?_
  refine Pl.qA_bx (cs := [(.slice A (limbs a).length c)]) rfl rfl rfl rfl rfl rfl (fun Y hY => trivial) ?_
  intro N1 w1 hE1 hN_N1 k_N1_0
  have z_N1 := Pl.Cb.lt k_N1_0
  have sz1 := Pl.Ex.size hE1
  refine Pl.qA_go trivial rfl ?_
  refine Pl.pA_end ?_
  repeat refine Pl.V_seq ?_
  refine Pl.V_region (by kernel_rfl) ?_
  refine Pl.qA_al (z := .int .i64 0) (by kernel_rfl) rfl rfl rfl rfl (fun Y hY => trivial) ?_
  intro N2 w2 hE2 hN_N2 k_N2_0
  have z_N2 := Pl.Cb.lt k_N2_0
  have sz2 := Pl.Ex.size hE2
  replace k_N2_0 : Pl.Cb w2 N2 3 [.int .i64 0] := k_N2_0
  refine Pl.qA_s1 (j := 0) (u := .int .i64 1) k_N2_0 (by simp) (by kernel_rfl) rfl rfl rfl rfl rfl rfl rfl rfl (fun Y hY => trivial) ?_
  intro w3 hX3 k_N2_1
  have hE3 := Pl.Ex.xs hE2 hX3 (by omega)
  replace k_N2_1 : Pl.Cb w3 N2 3 [.int .i64 1] := k_N2_1
  have sz3 := Pl.Xs.size hX3
  refine Pl.pA_end ?_
  repeat refine Pl.V_seq ?_
  refine Pl.V_region (by kernel_rfl) ?_
  refine Pl.qA_lcw (v := (.slice A (limbs a).length c)) Tryz.underlying22 rfl (Pl.Cb.at (j := 0) (Pl.Cb.ex k_N1_0 hE3) rfl) trivial rfl rfl rfl rfl rfl ?_
  refine Pl.pA_call rfl rfl rfl rfl rfl (fun u X => Pl.enters Tryz.func38 (by kernel_rfl) rfl u X) ?_
  refine Calls.mono (bits_B _ _ a (Un.below ha (Pl.Ex.trans hE1 hE3)) (Sn.le la (by decide)) _ rfl) ?_
  rintro e w4 ⟨rfl, hE4⟩
  have sz4 := Pl.Ex.size hE4
  refine ⟨_, rfl, trivial, ?_⟩
  refine Pl.qA_go trivial rfl ?_
  refine Pl.pA_end ?_
  repeat refine Pl.V_seq ?_
  refine Pl.V_region (by kernel_rfl) ?_
  refine Pl.qA_go trivial rfl ?_
  by_cases c3 : (blen a) ≤ 1
  · refine Pl.qA_b (v := .bool true) (fun X => Pl.r_leq (decide_eq_true (by omega)) X) trivial rfl rfl rfl rfl rfl rfl ?_
    refine Pl.pA_end ?_
    repeat refine Pl.V_seq ?_
    refine Pl.V_true rfl ?_
    repeat refine Pl.V_seq ?_
    refine Pl.V_region (by kernel_rfl) ?_
    refine Pl.qA_lcw (v := (.slice A (limbs a).length c)) Tryz.underlying22 rfl (Pl.Cb.at (j := 0) (Pl.Cb.ex k_N1_0 (Pl.Ex.trans hE3 hE4)) rfl) trivial rfl rfl rfl rfl rfl ?_
    refine Pl.qA_go trivial rfl ?_
    refine Pl.pA_end ?_
    repeat refine Pl.V_seq ?_
    exact Pl.postM_ret2 rfl rfl rfl ⟨_, a, 1, rfl, (Un.below ha (Pl.Ex.trans hE1 (Pl.Ex.trans hE3 hE4))), .inl ⟨blen_one.1 c3, rfl, rfl⟩, (Pl.Ex.trans hE1 (Pl.Ex.trans hE3 hE4))⟩
  · refine Pl.qA_b (v := .bool false) (fun X => Pl.r_leq (decide_eq_false (by omega)) X) trivial rfl rfl rfl rfl rfl rfl ?_
    refine Pl.pA_end ?_
    repeat refine Pl.V_seq ?_
    refine Pl.V_false rfl ?_
    repeat refine Pl.V_seq ?_
    refine Pl.V_skip ?_
    repeat refine Pl.V_seq ?_
    refine Pl.V_region (by kernel_rfl) ?_
    refine Pl.qA_al (z := .int .i64 0) (by kernel_rfl) rfl rfl rfl rfl (fun Y hY => trivial) ?_
    intro N4 w5 hE5 hN_N4 k_N4_0
    have z_N4 := Pl.Cb.lt k_N4_0
    have sz5 := Pl.Ex.size hE5
    replace k_N4_0 : Pl.Cb w5 N4 3 [.int .i64 0] := k_N4_0
    refine Pl.qA_s1 (j := 0) (u := .int .i64 0) k_N4_0 (by simp) (by kernel_rfl) rfl rfl rfl rfl rfl rfl rfl rfl (fun Y hY => trivial) ?_
    intro w6 hX6 k_N4_1
    have hE6 := Pl.Ex.xs hE5 hX6 (by omega)
    replace k_N4_1 : Pl.Cb w6 N4 3 [.int .i64 0] := k_N4_1
    have sz6 := Pl.Xs.size hX6
    refine Pl.pA_end ?_
    have q1 := (Pl.Cb.ex k_N1_0 (Pl.Ex.trans hE3 (Pl.Ex.trans hE4 hE6)))
    have q2 := (Pl.Cb.ex k_N2_1 (Pl.Ex.trans hE4 hE6))
    have q3 := k_N4_1
    have hord : w.heap.size ≤ N1 ∧ N1 < N2 ∧ N2 < N4 := by omega
    have ha0 : a ≠ 0 := fun e => by subst e; have := blen_zero; omega
    repeat refine Pl.V_seq ?_
    refine Pl.V_block ?_
    repeat refine Pl.V_seq ?_
    refine Pl.V_sub [(1, .pointer (some ⟨N1, 0, none⟩)), (4, .pointer (some ⟨N2, 0, none⟩)), (5, .int .i64 ((blen a : Nat) : Int)), (6, .pointer (some ⟨N4, 0, none⟩))] (Pl.subl_cons rfl (Pl.subl_cons rfl (Pl.subl_cons rfl (Pl.subl_cons rfl Pl.subl_nil)))) ?_
    repeat refine Pl.V_seq ?_
    refine Pl.V_loop (fun kq l' w' => ∃ (tw : Nat), (blen a - tw) = kq ∧ (Pl.Ex w w') ∧ (Pl.Cb w' N1 22 [(.slice A (limbs a).length c)]) ∧ (Pl.Cb w' N2 3 [.int .i64 ((1 : Nat) : Int)]) ∧ (Pl.Cb w' N4 3 [.int .i64 ((tw : Nat) : Int)]) ∧ (2 ^ tw ∣ a) ∧ l' = [(1, .pointer (some ⟨N1, 0, none⟩)), (4, .pointer (some ⟨N2, 0, none⟩)), (5, .int .i64 ((blen a : Nat) : Int)), (6, .pointer (some ⟨N4, 0, none⟩))]) _ ⟨0, rfl, (Pl.Ex.trans hE1 (Pl.Ex.trans hE3 (Pl.Ex.trans hE4 hE6))), q1, q2, q3, (by rw [Nat.pow_zero]; exact Nat.one_dvd a), rfl⟩ ?_
    rintro kq _ w7 ⟨tw, hk7, hE7, k1, k2, k3, hdv, rfl⟩
    have sz7 := Pl.Ex.size hE7
    have htl := tz_lt hdv ha0
    repeat refine Pl.V_seq ?_
    refine Pl.V_region (by kernel_rfl) ?_
    refine Pl.qA_lcw (v := (.slice A (limbs a).length c)) Tryz.underlying22 rfl (Pl.Cb.at (j := 0) k1 rfl) trivial rfl rfl rfl rfl rfl ?_
    refine Pl.qA_lcw (v := .int .i64 ((tw : Nat) : Int)) Tryz.underlying3 rfl (Pl.Cb.at (j := 0) k3 rfl) trivial rfl rfl rfl rfl rfl ?_
    refine Pl.pA_call rfl rfl rfl rfl rfl (fun u X => Pl.enters Tryz.func47 (by kernel_rfl) rfl u X) ?_
    refine Calls.mono (bitNN _ _ a tw (Un.below ha hE7) (by omega)) ?_
    rintro e w8 ⟨rfl, hE8⟩
    have sz8 := Pl.Ex.size hE8
    refine ⟨_, rfl, trivial, ?_⟩
    by_cases c5 : (a / 2 ^ tw % 2) = 0
    · refine Pl.qA_b (v := .bool true) (fun X => Pl.r_eql (Pl.e_t (by omega)) X) trivial rfl rfl rfl rfl rfl rfl ?_
      refine Pl.pA_end ?_
      repeat refine Pl.V_seq ?_
      refine Pl.V_true rfl ?_
      repeat refine Pl.V_seq ?_
      refine Pl.V_skip ?_
      repeat refine Pl.V_seq ?_
      refine Pl.V_block ?_
      repeat refine Pl.V_seq ?_
      refine Pl.V_region (by kernel_rfl) ?_
      refine Pl.qA_lcw (v := .int .i64 ((tw : Nat) : Int)) Tryz.underlying3 rfl (Pl.Cb.at (j := 0) (Pl.Cb.ex k3 hE8) rfl) trivial rfl rfl rfl rfl rfl ?_
      refine Pl.qA_b (v := .int .i64 (((tw + 1) : Nat) : Int)) (fun X => nb_add_i64 (a := tw) (b := 1) (by omega) X) trivial rfl rfl rfl rfl rfl rfl ?_
      refine Pl.qA_s1 (j := 0) (u := .int .i64 (((tw + 1) : Nat) : Int)) (Pl.Cb.ex k3 hE8) (by simp) (by kernel_rfl) rfl rfl rfl rfl rfl rfl rfl rfl (fun Y hY => trivial) ?_
      intro w9 hX9 k_N4_101
      have hE9 := Pl.Ex.xs (Pl.Ex.trans hE7 hE8) hX9 (by omega)
      replace k_N4_101 : Pl.Cb w9 N4 3 [.int .i64 (((tw + 1) : Nat) : Int)] := k_N4_101
      have sz9 := Pl.Xs.size hX9
      have k_N1_101 := Pl.Cb.xs (Pl.Cb.ex k1 hE8) hX9 (by simp; omega)
      have k_N2_101 := Pl.Cb.xs (Pl.Cb.ex k2 hE8) hX9 (by simp; omega)
      refine Pl.pA_end ?_
      refine Pl.V_endblock ?_
      repeat refine Pl.V_seq ?_
      refine Pl.V_again (k' := (blen a - (tw + 1))) [(1, .pointer (some ⟨N1, 0, none⟩)), (4, .pointer (some ⟨N2, 0, none⟩)), (5, .int .i64 ((blen a : Nat) : Int)), (6, .pointer (some ⟨N4, 0, none⟩))] (Pl.subl_cons rfl (Pl.subl_cons rfl (Pl.subl_cons rfl (Pl.subl_cons rfl Pl.subl_nil)))) (by omega) ⟨(tw + 1), rfl, hE9, k_N1_101, k_N2_101, k_N4_101, (tz_next hdv c5), rfl⟩
    · refine Pl.qA_b (v := .bool false) (fun X => Pl.r_eql (Pl.e_f (by omega)) X) trivial rfl rfl rfl rfl rfl rfl ?_
      refine Pl.pA_end ?_
      repeat refine Pl.V_seq ?_
      refine Pl.V_false rfl ?_
      repeat refine Pl.V_seq ?_
      refine Pl.V_exit ?_
      repeat refine Pl.V_seq ?_
      refine Pl.V_region (by kernel_rfl) ?_
      refine Pl.qA_go trivial rfl ?_
      refine Pl.qA_b (v := .int .i64 (((blen a - 1) : Nat) : Int)) (fun X => nb_sub_i64 (a := blen a) (b := 1) (by omega) X) trivial rfl rfl rfl rfl rfl rfl ?_
      refine Pl.pA_call rfl rfl rfl rfl rfl (fun u X => Pl.enters Tryz.func48 (by kernel_rfl) rfl u X) ?_
      refine Calls.mono (primes_calls _ (blen a - 1)) ?_
      rintro e w9 ⟨N0, rfl, hN_N0, k_N0_0, hE9⟩
      have z_N0 := Pl.Cb.lt k_N0_0
      have sz9 := Pl.Ex.size hE9
      refine ⟨_, rfl, trivial, ?_⟩
      refine Pl.pA_end ?_
      repeat refine Pl.V_seq ?_
      refine Pl.V_block ?_
      repeat refine Pl.V_seq ?_
      refine Pl.V_sub [(1, .pointer (some ⟨N1, 0, none⟩)), (4, .pointer (some ⟨N2, 0, none⟩)), (6, .pointer (some ⟨N4, 0, none⟩)), (22, .func (.func 72) #[] #[.pointer (some ⟨N0, 0, none⟩)])] (Pl.subl_cons rfl (Pl.subl_cons rfl (Pl.subl_cons rfl (Pl.subl_cons rfl Pl.subl_nil)))) ?_
      have r1 := (Pl.Cb.ex k1 (Pl.Ex.trans hE8 hE9))
      have r2 := (Pl.Cb.ex k2 (Pl.Ex.trans hE8 hE9))
      have r3 := (Pl.Cb.ex k3 (Pl.Ex.trans hE8 hE9))
      have r0 := k_N0_0
      have hE0 := (Pl.Ex.trans hE7 (Pl.Ex.trans hE8 hE9))
      have szE := hE0.size
      have z0 := Pl.Cb.lt r0
      have hpm : Pm a a 1 tw 2 := ⟨Nat.pow_one a, Nat.le_refl _, Nat.lt_of_not_le fun h9 => c3 (blen_one.2 h9), Nat.le_refl _, tz_start hdv c5, fun p hp hl => by have := hp.1; omega⟩
      repeat refine Pl.V_seq ?_
      refine Pl.V_range (gf := 72) (lb := [.pointer (some ⟨N0, 0, none⟩)]) rfl (fun u X => Pl.enters Tryz.func72 (by kernel_rfl) rfl u X) ?_
      intro fn tmps rec hrec hAg
      obtain ⟨D, hD⟩ : ∃ D, w9.heap.size = D := ⟨_, rfl⟩
      rw [hD]
      rw [hD] at hrec szE z0
      have hwD : w.heap.size ≤ D := szE
      have hoD : N0 < D ∧ N1 < D ∧ N2 < D ∧ N4 < D := by have := Pl.Cb.lt r1; have := Pl.Cb.lt r2; have := Pl.Cb.lt r3; omega
      have hNw : w.heap.size ≤ N0 ∧ w.heap.size ≤ N1 ∧ w.heap.size ≤ N2 ∧ w.heap.size ≤ N4 := by omega
      have hNne : N0 ≠ N1 ∧ N0 ≠ N2 ∧ N0 ≠ N4 ∧ N1 ≠ N2 ∧ N1 ≠ N4 ∧ N2 ≠ N4 := by have := Pl.Cb.lt k1; have := Pl.Cb.lt k2; have := Pl.Cb.lt k3; omega
      have hE45 : Pl.Ex w9 ((w9.alloc (.deferred (some []))).alloc (.loop rec)) := Pl.Ex.trans (Pl.Ex.alloc _ _) (Pl.Ex.alloc _ _)
      have hL5 : Lq w D rec ((w9.alloc (.deferred (some []))).alloc (.loop rec)) := ⟨by rw [← hD]; have := World.alloc_heap_new (w9.alloc (.deferred (some []))) (.loop rec); rwa [World.size_alloc] at this, by rw [← hD]; exact (Below.heap_alloc _ _ _ (by simp)).trans (World.alloc_heap_new w9 _), Pl.Ex.trans hE0 hE45⟩
      have h0s : PS w D rec N0 N1 N2 N4 (blen a - 1) (.slice A (limbs a).length c) a 1 tw ((w9.alloc (.deferred (some []))).alloc (.loop rec)) := ⟨Pl.Cb.ex r0 hE45, Pl.Cb.ex r1 hE45, Un.below ha (Pl.Ex.trans hE0 hE45), Pl.Cb.ex r2 hE45, Pl.Cb.ex r3 hE45, hL5⟩
      have hs0 : ((w9.alloc (.deferred (some []))).alloc (.loop rec)).heap.size = D + 2 := by rw [World.size_alloc, World.size_alloc, hD]
      generalize (w9.alloc (.deferred (some []))).alloc (.loop rec) = w0 at *
      clear r0 r1 r2 r3 hL5 hE45
      refine Calls.mono (primes1_calls w0 (blen a - 1) N0 (D + 1) [N1, N2, N4, D + 1] (by omega) (by simp; omega) (fun q X => ∃ vb b k t, PS w D rec N0 N1 N2 N4 (blen a - 1) vb b k t X ∧ Pm a b k t q) (fun X => ∃ vb b k t, PS w D { rec with state := .done, pending := some (.exit 2) } N0 N1 N2 N4 (blen a - 1) vb b k t X ∧ b ^ k = a ∧ Rt.Prim b ∧ 1 ≤ k ∧ k < blen a) ?h0 ?hJN ?hI ?hE ?hskip ?hok) ?_
      case h0 => exact ⟨(.slice A (limbs a).length c), a, 1, tw, h0s, hpm⟩
      case hJN => exact fun q X ⟨_, _, _, _, hj, _⟩ => hj.c0
      case hI => exact fun q X Y M cs ⟨vb, b, k, t, hj, hp⟩ hM hc hx => ⟨vb, b, k, t, hj.bools hoD hwD (by omega) hc hx, hp⟩
      case hE => exact fun q X Y ⟨vb, b, k, t, hj, hp⟩ hx => ⟨vb, b, k, t, hj.ex hx, hp⟩
      case hskip => exact fun q X ⟨vb, b, k, t, hj, hp⟩ h2 hn => ⟨vb, b, k, t, hj, hp.skip hn⟩
      case hok =>
        intro q X hJ hq2 hqn hpq
        obtain ⟨vb0, b0, k0, t0, hj, hp0⟩ := hJ
        refine YW.of hrec hj.lq.loop rfl ?_
        refine Pl.round_of (Pl.Ag.round hAg (by decide) _) ?_
        repeat refine Pl.VI_seq ?_
        refine Pl.VI_region (by kernel_rfl) ?_
        refine Pl.qA_go trivial rfl ?_
        refine Pl.pA_end ?_
        have hLb := hj.lq.put hwD { rec with state := .busy }
        have xb := Xs.putObj X (D + 1) (.loop { rec with state := .busy })
        have hj3 := hj.put hoD xb hLb
        refine Pl.VI_end fun a2 ha2 => ⟨_, _, ha2, run_beginRound hj.lq.loop (by rw [hrec]), ?_⟩
        generalize X.putObj (D + 1) (.loop { rec with state := .busy }) = w1 at *
        clear hj hLb ha2
        repeat refine Pl.VI_seq ?_
        refine Pl.VI_block ?_
        repeat refine Pl.VI_seq ?_
        refine Pl.VI_cut1 (fun l' w' => ∃ vb b k t, PS w D { rec with state := .busy } N0 N1 N2 N4 (blen a - 1) vb b k t w' ∧ Pm a b k t q ∧ ¬ Rt.isP b q ∧ Pl.Xs [N1, N2, N4, D + 1] X w' ∧ l' = [(1, .pointer (some ⟨N1, 0, none⟩)), (4, .pointer (some ⟨N2, 0, none⟩)), (6, .pointer (some ⟨N4, 0, none⟩)), (7, .int .i64 ((q : Nat) : Int))]) ?_ fun hcut => ?_
        · rintro _ w21 ⟨vb, b, k, t, hj4, hp, hni, hX4, rfl⟩
          have hb2 := hp.b2
          have hblm := blen_mono hp.ba
          have lb9 : Sn b 300 := la.down hp.ba
          have htl9 := hp.t_lt
          have hkl9 := hp.k_lt
          have hk19 := hp.k1
          repeat refine Pl.VI_seq ?_
          refine Pl.VI_region (by kernel_rfl) ?_
          refine Pl.qA_go trivial rfl ?_
          refine Pl.qA_lcw (v := vb) Tryz.underlying22 rfl (Pl.Cb.at (j := 0) hj4.c1 rfl) trivial rfl rfl rfl rfl rfl ?_
          refine Pl.pA_call rfl rfl rfl rfl rfl (fun u X => Pl.enters Tryz.func38 (by kernel_rfl) rfl u X) ?_
          refine Calls.mono (bits_B _ _ b hj4.hu (Sn.le lb9 (by decide)) _ rfl) ?_
          rintro e w22 ⟨rfl, hE22⟩
          have sz22 := Pl.Ex.size hE22
          refine ⟨_, rfl, trivial, ?_⟩
          by_cases c1 : q ≥ (blen b)
          · refine Pl.qA_b (v := .bool true) (fun X => Pl.r_geq (decide_eq_true (by omega)) X) trivial rfl rfl rfl rfl rfl rfl ?_
            refine Pl.qA_go trivial rfl ?_
            refine Pl.pA_end ?_
            repeat refine Pl.VI_seq ?_
            refine Pl.VI_true rfl ?_
            repeat refine Pl.VI_seq ?_
            refine Pl.VI_exitTo fun aQ hQ => ?_
            refine Pl.exit_ne rfl (Pl.KsI_exit (cs := []) ?_)
            obtain ⟨vz, Xz, hrz, rfl, hLz, xz⟩ := Lq.finBy (P := Tryz.prog) (hj4.ex hE22).lq hwD (.exit 2)
            exact ⟨_, _, hrz, ⟨false, rfl, fun h => (by cases h), fun _ => ⟨vb, b, k, t, PS.put (hj4.ex hE22) hoD xz hLz, hp.eq, (hp.end1 (by omega)), hp.k1, hp.k_lt⟩⟩, (hX4.trans (Pl.Xs.ex hE22)).trans (xz.drop (by simp))⟩
          · refine Pl.qA_b (v := .bool false) (fun X => Pl.r_geq (decide_eq_false (by omega)) X) trivial rfl rfl rfl rfl rfl rfl ?_
            refine Pl.qA_go trivial rfl ?_
            refine Pl.qA_lcw (v := .int .i64 ((t : Nat) : Int)) Tryz.underlying3 rfl (Pl.Cb.at (j := 0) (Pl.Cb.ex hj4.c3 hE22) rfl) trivial rfl rfl rfl rfl rfl ?_
            by_cases c2 : t > 0
            · refine Pl.qA_b (v := .bool true) (fun X => Pl.r_gtr (decide_eq_true (by omega)) X) trivial rfl rfl rfl rfl rfl rfl ?_
              refine Pl.qA_go trivial rfl ?_
              refine Pl.qA_lcw (v := .int .i64 ((t : Nat) : Int)) Tryz.underlying3 rfl (Pl.Cb.at (j := 0) (Pl.Cb.ex hj4.c3 hE22) rfl) trivial rfl rfl rfl rfl rfl ?_
              by_cases c3 : q > t
              · refine Pl.qA_b (v := .bool true) (fun X => Pl.r_gtr (decide_eq_true (by omega)) X) trivial rfl rfl rfl rfl rfl rfl ?_
                refine Pl.qA_go trivial rfl ?_
                refine Pl.pA_end ?_
                repeat refine Pl.VI_seq ?_
                refine Pl.VI_true rfl ?_
                repeat refine Pl.VI_seq ?_
                refine Pl.VI_exitTo fun aQ hQ => ?_
                refine Pl.exit_ne rfl (Pl.KsI_exit (cs := []) ?_)
                obtain ⟨vz, Xz, hrz, rfl, hLz, xz⟩ := Lq.finBy (P := Tryz.prog) (hj4.ex hE22).lq hwD (.exit 2)
                exact ⟨_, _, hrz, ⟨false, rfl, fun h => (by cases h), fun _ => ⟨vb, b, k, t, PS.put (hj4.ex hE22) hoD xz hLz, hp.eq, (hp.end2 hni (by omega) (by omega)), hp.k1, hp.k_lt⟩⟩, (hX4.trans (Pl.Xs.ex hE22)).trans (xz.drop (by simp))⟩
              · refine Pl.qA_b (v := .bool false) (fun X => Pl.r_gtr (decide_eq_false (by omega)) X) trivial rfl rfl rfl rfl rfl rfl ?_
                refine Pl.qA_go trivial rfl ?_
                refine Pl.pA_end ?_
                repeat refine Pl.VI_seq ?_
                refine Pl.VI_false rfl ?_
                repeat refine Pl.VI_seq ?_
                refine Pl.VI_skip ?_
                refine Pl.VI_endblock ?_
                refine Pl.VI_end fun a3 ha3 => ?_
                obtain ⟨vz, Xz, hrz, rfl, hLz, xz⟩ := Lq.fin (P := Tryz.prog) (hj4.ex hE22).lq hwD (by rw [hrec]) (by rw [hrec])
                exact ⟨_, _, hrz, ⟨true, rfl, fun _ => ⟨vb, b, k, t, PS.put (hj4.ex hE22) hoD xz hLz, hp.next hni⟩, fun h => by cases h⟩, (hX4.trans (Pl.Xs.ex hE22)).trans (xz.drop (by simp))⟩
            · refine Pl.qA_b (v := .bool false) (fun X => Pl.r_gtr (decide_eq_false (by omega)) X) trivial rfl rfl rfl rfl rfl rfl ?_
              refine Pl.qA_go trivial rfl ?_
              refine Pl.pA_end ?_
              repeat refine Pl.VI_seq ?_
              refine Pl.VI_false rfl ?_
              repeat refine Pl.VI_seq ?_
              refine Pl.VI_skip ?_
              refine Pl.VI_endblock ?_
              refine Pl.VI_end fun a3 ha3 => ?_
              obtain ⟨vz, Xz, hrz, rfl, hLz, xz⟩ := Lq.fin (P := Tryz.prog) (hj4.ex hE22).lq hwD (by rw [hrec]) (by rw [hrec])
              exact ⟨_, _, hrz, ⟨true, rfl, fun _ => ⟨vb, b, k, t, PS.put (hj4.ex hE22) hoD xz hLz, hp.next hni⟩, fun h => by cases h⟩, (hX4.trans (Pl.Xs.ex hE22)).trans (xz.drop (by simp))⟩
        · repeat refine Pl.VI_seq ?_
          refine Pl.VI_block ?_
          repeat refine Pl.VI_seq ?_
          refine Pl.VI_sub [(1, .pointer (some ⟨N1, 0, none⟩)), (4, .pointer (some ⟨N2, 0, none⟩)), (6, .pointer (some ⟨N4, 0, none⟩)), (7, .int .i64 ((q : Nat) : Int))] (Pl.subl_cons rfl (Pl.subl_cons rfl (Pl.subl_cons rfl (Pl.subl_cons rfl Pl.subl_nil)))) ?_
          repeat refine Pl.VI_seq ?_
          refine Pl.VI_loop (fun kq l' w' => ∃ (vb : Value) (b : Nat) (k : Nat) (t : Nat), b = kq ∧ (PS w D { rec with state := .busy } N0 N1 N2 N4 (blen a - 1) vb b k t w') ∧ (Pm a b k t q) ∧ (Pl.Xs [N1, N2, N4, D + 1] X w') ∧ l' = [(1, .pointer (some ⟨N1, 0, none⟩)), (4, .pointer (some ⟨N2, 0, none⟩)), (6, .pointer (some ⟨N4, 0, none⟩)), (7, .int .i64 ((q : Nat) : Int))]) _ ⟨vb0, b0, k0, t0, rfl, hj3, hp0, (xb.drop (by simp)), rfl⟩ ?_
          rintro kq _ w2 ⟨vb, b, k, t, hk2, hjl, hp, hXl, rfl⟩
          have hb2 := hp.b2
          have hblm := blen_mono hp.ba
          have lb9 : Sn b 300 := la.down hp.ba
          have htl9 := hp.t_lt
          have hkl9 := hp.k_lt
          have hk19 := hp.k1
          repeat refine Pl.VI_seq ?_
          refine Pl.VI_region (by kernel_rfl) ?_
          refine Pl.qA_go trivial rfl ?_
          refine Pl.qA_lcw (v := vb) Tryz.underlying22 rfl (Pl.Cb.at (j := 0) hjl.c1 rfl) trivial rfl rfl rfl rfl rfl ?_
          refine Pl.pA_call rfl rfl rfl rfl rfl (fun u X => Pl.enters Tryz.func38 (by kernel_rfl) rfl u X) ?_
          refine Calls.mono (bits_B _ _ b hjl.hu (Sn.le lb9 (by decide)) _ rfl) ?_
          rintro e w3 ⟨rfl, hE3⟩
          have sz3 := Pl.Ex.size hE3
          refine ⟨_, rfl, trivial, ?_⟩
          by_cases c1 : q < (blen b)
          · refine Pl.qA_b (v := .bool true) (fun X => Pl.r_lss (decide_eq_true (by omega)) X) trivial rfl rfl rfl rfl rfl rfl ?_
            refine Pl.qA_go trivial rfl ?_
            refine Pl.qA_lcw (v := .int .i64 ((t : Nat) : Int)) Tryz.underlying3 rfl (Pl.Cb.at (j := 0) (Pl.Cb.ex hjl.c3 hE3) rfl) trivial rfl rfl rfl rfl rfl ?_
            refine Pl.qA_go trivial rfl ?_
            refine Pl.qA_b (v := .int .i64 (((t % q) : Nat) : Int)) (fun X => nb_rem_i64 (a := t) (b := q) (by omega) (by omega) X) trivial rfl rfl rfl rfl rfl rfl ?_
            by_cases c2 : (t % q) = 0
            · refine Pl.qA_b (v := .bool true) (fun X => Pl.r_eql (Pl.e_t (by omega)) X) trivial rfl rfl rfl rfl rfl rfl ?_
              refine Pl.qA_go trivial rfl ?_
              refine Pl.qA_lcw (v := vb) Tryz.underlying22 rfl (Pl.Cb.at (j := 0) (Pl.Cb.ex hjl.c1 hE3) rfl) trivial rfl rfl rfl rfl rfl ?_
              refine Pl.qA_go trivial rfl ?_
              refine Pl.pA_call rfl rfl rfl rfl rfl (fun u X => Pl.enters Tryz.func49 (by kernel_rfl) rfl u X) ?_
              refine Calls.mono (may_calls _ _ b (Un.below hjl.hu hE3) lb9 q (by omega) (by omega) (by omega) (fun _ h2 => pr_odd hpq h2)) ?_
              rintro e w4 ⟨rm, rfl, hrm, hE4⟩
              have sz4 := Pl.Ex.size hE4
              refine ⟨_, rfl, trivial, ?_⟩
              refine Pl.qA_go trivial rfl ?_
              refine Pl.pA_end ?_
              cases rm
              · repeat refine Pl.VI_seq ?_
                refine Pl.VI_false rfl ?_
                repeat refine Pl.VI_seq ?_
                refine Pl.VI_exitTo fun aQ hQ => ?_
                refine Pl.exit_then (Pl.KsI_exit (cs := []) ?_)
                refine Pl.exit_eq ?_
                refine Pl.at_VI hQ ?_
                clear hQ
                exact Pl.VI_use [(1, .pointer (some ⟨N1, 0, none⟩)), (4, .pointer (some ⟨N2, 0, none⟩)), (6, .pointer (some ⟨N4, 0, none⟩)), (7, .int .i64 ((q : Nat) : Int))] hcut (Pl.subl_cons rfl (Pl.subl_cons rfl (Pl.subl_cons rfl (Pl.subl_cons rfl Pl.subl_nil)))) ⟨vb, b, k, t, hjl.ex (Pl.Ex.trans hE3 hE4), hp, (Pm.may hrm rfl (by omega)), hXl.trans (Pl.Xs.ex (Pl.Ex.trans hE3 hE4)), rfl⟩
              · repeat refine Pl.VI_seq ?_
                refine Pl.VI_true rfl ?_
                repeat refine Pl.VI_seq ?_
                refine Pl.VI_skip ?_
                repeat refine Pl.VI_seq ?_
                refine Pl.VI_block ?_
                repeat refine Pl.VI_seq ?_
                refine Pl.VI_region (by kernel_rfl) ?_
                refine Pl.qA_lcw (v := vb) Tryz.underlying22 rfl (Pl.Cb.at (j := 0) (Pl.Cb.ex hjl.c1 (Pl.Ex.trans hE3 hE4)) rfl) trivial rfl rfl rfl rfl rfl ?_
                refine Pl.qA_go trivial rfl ?_
                refine Pl.pA_call rfl rfl rfl rfl rfl (fun u X => Pl.enters Tryz.func33 (by kernel_rfl) rfl u X) ?_
                refine Calls.mono (kth_calls b _ _ q (Un.below hjl.hu (Pl.Ex.trans hE3 hE4)) lb9 (by omega) (by omega) (fun _ => by omega)) ?_
                rintro e w5 ⟨v3, rfl, hv3, hE5⟩
                have sz5 := Pl.Ex.size hE5
                refine ⟨_, rfl, trivial, ?_⟩
                refine Pl.qA_go trivial rfl ?_
                refine Pl.pA_end ?_
                repeat refine Pl.VI_seq ?_
                refine Pl.VI_draw (S := fun X => Pl.Ex w5 X) [(true, 0, 0), (true, 1, 1), (true, 3, 3), (false, 2, 11), (false, 4, 15), (true, 5, 31)] fo (by repeat first | with_reducible exact Pl.pan_rp | with_reducible refine Pl.pn_block ?_ | with_reducible refine Pl.pn_then ?_ | with_reducible refine Pl.pan_ksI ?_) (by repeat first | with_reducible exact Pl.lets_rp | with_reducible refine Pl.lets_block ?_ | with_reducible refine Pl.lets_then ?_ | with_reducible refine Pl.lets_ksI ?_) (by kernel_rfl) (by kernel_rfl) (Pl.Ex.trans (Pl.Ex.refl _) (Pl.Ex.drew _)) ?_
                have hE6 := Pl.Ex.drew w5
                generalize w5.drew = w6 at *
                have sz6 := Pl.Ex.size hE6
                intro hS6
                refine Pl.qA_go hS6 rfl ?_
                refine Pl.qA_lc (v := vb) Tryz.underlying22 rfl (fun X hX => Pl.Cb.at (j := 0) (Pl.Cb.ex (Pl.Cb.ex hjl.c1 (Pl.Ex.trans hE3 (Pl.Ex.trans hE4 hE5))) hX) rfl) hS6 rfl rfl rfl rfl rfl ?_
                refine Pl.pA_call rfl rfl rfl rfl rfl (fun u X => Pl.enters Tryz.func51 (by kernel_rfl) rfl u X) ?_
                refine Calls.mono (powM' _ _ (Rt.kr b q) q (Un.below hv3 hE6) (blen b / q + 1) (kr_hi (by omega)) (by have := Nat.div_le_self (blen b) q; omega) (kr_bits (by omega) (by omega) (by omega)).1 (by omega)) ?_
                rintro e w7 ⟨v4, rfl, hv4, hE7⟩
                have sz7 := Pl.Ex.size hE7
                have hS7 := Pl.Ex.trans hS6 hE7
                refine ⟨_, rfl, hS7, ?_⟩
                by_cases c5 : ((Rt.kr b q) ^ q) = b
                · refine Pl.pA_call rfl rfl rfl rfl rfl (fun u X => Pl.enters Tryz.func50 (by kernel_rfl) rfl u X) ?_
                  refine Calls.mono (equal_calls _ _ _ ((Rt.kr b q) ^ q) b hv4 (Un.below hjl.hu (Pl.Ex.trans hE3 (Pl.Ex.trans hE4 (Pl.Ex.trans hE5 (Pl.Ex.trans hE6 hE7)))))) ?_
                  rintro e w8 ⟨rfl, hE8⟩
                  rw [decide_eq_true c5]
                  have sz8 := Pl.Ex.size hE8
                  have hS8 := Pl.Ex.trans hS7 hE8
                  refine ⟨_, rfl, hS8, ?_⟩
                  refine Pl.qA_un (v := .bool false) hS8 rfl rfl rfl rfl rfl (fun X => rfl) ?_
                  refine Pl.pA_end ?_
                  repeat refine Pl.VI_seq ?_
                  refine Pl.VI_false rfl ?_
                  repeat refine Pl.VI_seq ?_
                  refine Pl.VI_skip ?_
                  repeat refine Pl.VI_seq ?_
                  have hpst := hp.step (by omega) c5
                  have hkq : k * q ≤ 660 * 660 := Nat.mul_le_mul (by omega) (by omega)
                  repeat refine Pl.VI_seq ?_
                  have hj5 := hjl.ex (Pl.Ex.trans hE3 (Pl.Ex.trans hE4 (Pl.Ex.trans hE5 (Pl.Ex.trans hE6 (Pl.Ex.trans hE7 hE8)))))
                  have hc5 := (Un.below hv3 (Pl.Ex.trans hE6 (Pl.Ex.trans hE7 hE8)))
                  have hX5 := hXl.trans (Pl.Xs.ex (Pl.Ex.trans hE3 (Pl.Ex.trans hE4 (Pl.Ex.trans hE5 (Pl.Ex.trans hE6 (Pl.Ex.trans hE7 hE8))))))
                  refine Pl.VI_drawG (S := fun _ => True) fo (by repeat first | with_reducible exact Pl.lets_rp | with_reducible refine Pl.lets_block ?_ | with_reducible refine Pl.lets_then ?_ | with_reducible refine Pl.lets_ksI ?_) (by kernel_rfl) trivial ?_
                  intro _
                  have hEd := Pl.Ex.drew w8
                  replace hj5 := hj5.ex hEd
                  replace hc5 := Un.below hc5 hEd
                  replace hX5 := hX5.trans (Pl.Xs.ex hEd)
                  generalize w8.drew = w9 at *
                  refine Pl.GI_plan [(true, 0, 0), (true, 2, 1), (true, 5, 5)] 37 7 (by repeat first | with_reducible exact Pl.pan_rp | with_reducible refine Pl.pn_block ?_ | with_reducible refine Pl.pn_then ?_ | with_reducible refine Pl.pan_ksI ?_) (by kernel_rfl) (by kernel_rfl) (by kernel_rfl) ?_
                  refine Pl.qA_go trivial rfl ?_
                  refine Pl.pA_end ?_
                  refine Pl.GI_any [1, 4, 7] 6 (by kernel_rfl) (by kernel_rfl) (by kernel_rfl) (Pl.AllG_cons ?_ (Pl.AllG_cons ?_ (Pl.AllG_cons ?_ Pl.AllG_nil)))
                  · refine Pl.qA_lcw (v := .int .i64 ((k : Nat) : Int)) Tryz.underlying3 rfl (Pl.Cb.at (j := 0) hj5.c2 rfl) trivial rfl rfl rfl rfl rfl ?_
                    refine Pl.pA_end ?_
                    refine Pl.GI_plan [(true, 3, 39)] 47 5 (by repeat first | with_reducible exact Pl.pan_rp | with_reducible refine Pl.pn_block ?_ | with_reducible refine Pl.pn_then ?_ | with_reducible refine Pl.pan_ksI ?_) (by kernel_rfl) (by kernel_rfl) (by kernel_rfl) ?_
                    refine Pl.qA_b (v := .int .i64 (((k * q) : Nat) : Int)) (fun X => nb_mul_i64 (a := k) (b := q) (by omega) X) trivial rfl rfl rfl rfl rfl rfl ?_
                    refine Pl.pA_end ?_
                    refine Pl.GI_any [4, 7] 4 (by kernel_rfl) (by kernel_rfl) (by kernel_rfl) (Pl.AllG_cons ?_ (Pl.AllG_cons ?_ Pl.AllG_nil))
                    · refine Pl.qA_lcw (v := .int .i64 ((t : Nat) : Int)) Tryz.underlying3 rfl (Pl.Cb.at (j := 0) hj5.c3 rfl) trivial rfl rfl rfl rfl rfl ?_
                      refine Pl.pA_end ?_
                      refine Pl.GI_plan [(true, 6, 63), (false, 7, 127), (false, 8, 255), (false, 9, 511)] 1023 0 (by repeat first | with_reducible exact Pl.pan_rp | with_reducible refine Pl.pn_block ?_ | with_reducible refine Pl.pn_then ?_ | with_reducible refine Pl.pan_ksI ?_) (by kernel_rfl) (by kernel_rfl) (by kernel_rfl) ?_
                      refine Pl.qA_b (v := .int .i64 (((t / q) : Nat) : Int)) (fun X => nb_quo_i64 (a := t) (b := q) (by omega) (by omega) X) trivial rfl rfl rfl rfl rfl rfl ?_
                      refine Pl.qA_s1 (j := 0) (u := v3) hj5.c1 (Nat.succ_pos _) (by kernel_rfl) (one_sl hc5) (cells_sl hc5) rfl rfl rfl rfl rfl rfl (fun Y hY => trivial) ?_
                      intro w707 x7 k7
                      refine Pl.qA_s1 (j := 0) (u := .int .i64 ((k * q : Nat) : Int)) (Pl.Cb.xs hj5.c2 x7 (by simp; omega)) (Nat.succ_pos _) (by kernel_rfl) rfl rfl rfl rfl rfl rfl rfl rfl (fun Y hY => trivial) ?_
                      intro w708 x8 k8
                      refine Pl.qA_s1 (j := 0) (u := .int .i64 ((t / q : Nat) : Int)) (Pl.Cb.xs (Pl.Cb.xs hj5.c3 x7 (by simp; omega)) x8 (by simp; omega)) (Nat.succ_pos _) (by kernel_rfl) rfl rfl rfl rfl rfl rfl rfl rfl (fun Y hY => trivial) ?_
                      intro w709 x9 k9
                      refine Pl.pA_end ?_
                      refine Pl.G_VI (by kernel_rfl) ?_
                      have hj9 : PS w D { rec with state := .busy } N0 N1 N2 N4 (blen a - 1) v3 (Rt.kr b q) (k * q) (t / q) w709 := ⟨(Pl.Cb.xs (Pl.Cb.xs (Pl.Cb.xs hj5.c0 x7 (by simp; omega)) x8 (by simp; omega)) x9 (by simp; omega)), (Pl.Cb.xs (Pl.Cb.xs k7 x8 (by simp; omega)) x9 (by simp; omega)), (Un.one_cell (Un.one_cell (Un.one_cell hc5 hj5.c1 (sl_ne hj5.hu) x7) (Pl.Cb.xs hj5.c2 x7 (by simp; omega)) (fun z e => by cases e) x8) (Pl.Cb.xs (Pl.Cb.xs hj5.c3 x7 (by simp; omega)) x8 (by simp; omega)) (fun z e => by cases e) x9), (Pl.Cb.xs k8 x9 (by simp; omega)), k9, (((hj5.lq.xs x7 (by simp; omega)).xs x8 (by simp; omega)).xs x9 (by simp; omega))⟩
                      have hX9 : Pl.Xs [N1, N2, N4, D + 1] X w709 := (((hX5.trans (x7.drop (by simp))).trans (x8.drop (by simp))).trans (x9.drop (by simp)))
                      refine Pl.VI_endblock ?_
                      repeat refine Pl.VI_seq ?_
                      refine Pl.VI_again (k' := (Rt.kr b q)) [(1, .pointer (some ⟨N1, 0, none⟩)), (4, .pointer (some ⟨N2, 0, none⟩)), (6, .pointer (some ⟨N4, 0, none⟩)), (7, .int .i64 ((q : Nat) : Int))] (Pl.subl_cons rfl (Pl.subl_cons rfl (Pl.subl_cons rfl (Pl.subl_cons rfl Pl.subl_nil)))) (by omega) ⟨_, (Rt.kr b q), (k * q), (t / q), rfl, hj9, hpst.1, hX9, rfl⟩
                    · refine Pl.qA_s1 (j := 0) (u := v3) hj5.c1 (Nat.succ_pos _) (by kernel_rfl) (one_sl hc5) (cells_sl hc5) rfl rfl rfl rfl rfl rfl (fun Y hY => trivial) ?_
                      intro w707 x7 k7
                      refine Pl.pA_end ?_
                      refine Pl.GI_any [4, 8] 3 (by kernel_rfl) (by kernel_rfl) (by kernel_rfl) (Pl.AllG_cons ?_ (Pl.AllG_cons ?_ Pl.AllG_nil))
                      · refine Pl.qA_lcw (v := .int .i64 ((t : Nat) : Int)) Tryz.underlying3 rfl (Pl.Cb.at (j := 0) (Pl.Cb.xs hj5.c3 x7 (by simp; omega)) rfl) trivial rfl rfl rfl rfl rfl ?_
                        refine Pl.pA_end ?_
                        refine Pl.GI_plan [(true, 6, 191), (false, 8, 255), (false, 9, 511)] 1023 0 (by repeat first | with_reducible exact Pl.pan_rp | with_reducible refine Pl.pn_block ?_ | with_reducible refine Pl.pn_then ?_ | with_reducible refine Pl.pan_ksI ?_) (by kernel_rfl) (by kernel_rfl) (by kernel_rfl) ?_
                        refine Pl.qA_b (v := .int .i64 (((t / q) : Nat) : Int)) (fun X => nb_quo_i64 (a := t) (b := q) (by omega) (by omega) X) trivial rfl rfl rfl rfl rfl rfl ?_
                        refine Pl.qA_s1 (j := 0) (u := .int .i64 ((k * q : Nat) : Int)) (Pl.Cb.xs hj5.c2 x7 (by simp; omega)) (Nat.succ_pos _) (by kernel_rfl) rfl rfl rfl rfl rfl rfl rfl rfl (fun Y hY => trivial) ?_
                        intro w708 x8 k8
                        refine Pl.qA_s1 (j := 0) (u := .int .i64 ((t / q : Nat) : Int)) (Pl.Cb.xs (Pl.Cb.xs hj5.c3 x7 (by simp; omega)) x8 (by simp; omega)) (Nat.succ_pos _) (by kernel_rfl) rfl rfl rfl rfl rfl rfl rfl rfl (fun Y hY => trivial) ?_
                        intro w709 x9 k9
                        refine Pl.pA_end ?_
                        refine Pl.G_VI (by kernel_rfl) ?_
                        have hj9 : PS w D { rec with state := .busy } N0 N1 N2 N4 (blen a - 1) v3 (Rt.kr b q) (k * q) (t / q) w709 := ⟨(Pl.Cb.xs (Pl.Cb.xs (Pl.Cb.xs hj5.c0 x7 (by simp; omega)) x8 (by simp; omega)) x9 (by simp; omega)), (Pl.Cb.xs (Pl.Cb.xs k7 x8 (by simp; omega)) x9 (by simp; omega)), (Un.one_cell (Un.one_cell (Un.one_cell hc5 hj5.c1 (sl_ne hj5.hu) x7) (Pl.Cb.xs hj5.c2 x7 (by simp; omega)) (fun z e => by cases e) x8) (Pl.Cb.xs (Pl.Cb.xs hj5.c3 x7 (by simp; omega)) x8 (by simp; omega)) (fun z e => by cases e) x9), (Pl.Cb.xs k8 x9 (by simp; omega)), k9, (((hj5.lq.xs x7 (by simp; omega)).xs x8 (by simp; omega)).xs x9 (by simp; omega))⟩
                        have hX9 : Pl.Xs [N1, N2, N4, D + 1] X w709 := (((hX5.trans (x7.drop (by simp))).trans (x8.drop (by simp))).trans (x9.drop (by simp)))
                        refine Pl.VI_endblock ?_
                        repeat refine Pl.VI_seq ?_
                        refine Pl.VI_again (k' := (Rt.kr b q)) [(1, .pointer (some ⟨N1, 0, none⟩)), (4, .pointer (some ⟨N2, 0, none⟩)), (6, .pointer (some ⟨N4, 0, none⟩)), (7, .int .i64 ((q : Nat) : Int))] (Pl.subl_cons rfl (Pl.subl_cons rfl (Pl.subl_cons rfl (Pl.subl_cons rfl Pl.subl_nil)))) (by omega) ⟨_, (Rt.kr b q), (k * q), (t / q), rfl, hj9, hpst.1, hX9, rfl⟩
                      · refine Pl.qA_s1 (j := 0) (u := .int .i64 ((k * q : Nat) : Int)) (Pl.Cb.xs hj5.c2 x7 (by simp; omega)) (Nat.succ_pos _) (by kernel_rfl) rfl rfl rfl rfl rfl rfl rfl rfl (fun Y hY => trivial) ?_
                        intro w708 x8 k8
                        refine Pl.pA_end ?_
                        refine Pl.GI_plan [(false, 4, 431), (true, 6, 447), (false, 9, 511)] 1023 0 (by repeat first | with_reducible exact Pl.pan_rp | with_reducible refine Pl.pn_block ?_ | with_reducible refine Pl.pn_then ?_ | with_reducible refine Pl.pan_ksI ?_) (by kernel_rfl) (by kernel_rfl) (by kernel_rfl) ?_
                        refine Pl.qA_lcw (v := .int .i64 ((t : Nat) : Int)) Tryz.underlying3 rfl (Pl.Cb.at (j := 0) (Pl.Cb.xs (Pl.Cb.xs hj5.c3 x7 (by simp; omega)) x8 (by simp; omega)) rfl) trivial rfl rfl rfl rfl rfl ?_
                        refine Pl.qA_b (v := .int .i64 (((t / q) : Nat) : Int)) (fun X => nb_quo_i64 (a := t) (b := q) (by omega) (by omega) X) trivial rfl rfl rfl rfl rfl rfl ?_
                        refine Pl.qA_s1 (j := 0) (u := .int .i64 ((t / q : Nat) : Int)) (Pl.Cb.xs (Pl.Cb.xs hj5.c3 x7 (by simp; omega)) x8 (by simp; omega)) (Nat.succ_pos _) (by kernel_rfl) rfl rfl rfl rfl rfl rfl rfl rfl (fun Y hY => trivial) ?_
                        intro w709 x9 k9
                        refine Pl.pA_end ?_
                        refine Pl.G_VI (by kernel_rfl) ?_
                        have hj9 : PS w D { rec with state := .busy } N0 N1 N2 N4 (blen a - 1) v3 (Rt.kr b q) (k * q) (t / q) w709 := ⟨(Pl.Cb.xs (Pl.Cb.xs (Pl.Cb.xs hj5.c0 x7 (by simp; omega)) x8 (by simp; omega)) x9 (by simp; omega)), (Pl.Cb.xs (Pl.Cb.xs k7 x8 (by simp; omega)) x9 (by simp; omega)), (Un.one_cell (Un.one_cell (Un.one_cell hc5 hj5.c1 (sl_ne hj5.hu) x7) (Pl.Cb.xs hj5.c2 x7 (by simp; omega)) (fun z e => by cases e) x8) (Pl.Cb.xs (Pl.Cb.xs hj5.c3 x7 (by simp; omega)) x8 (by simp; omega)) (fun z e => by cases e) x9), (Pl.Cb.xs k8 x9 (by simp; omega)), k9, (((hj5.lq.xs x7 (by simp; omega)).xs x8 (by simp; omega)).xs x9 (by simp; omega))⟩
                        have hX9 : Pl.Xs [N1, N2, N4, D + 1] X w709 := (((hX5.trans (x7.drop (by simp))).trans (x8.drop (by simp))).trans (x9.drop (by simp)))
                        refine Pl.VI_endblock ?_
                        repeat refine Pl.VI_seq ?_
                        refine Pl.VI_again (k' := (Rt.kr b q)) [(1, .pointer (some ⟨N1, 0, none⟩)), (4, .pointer (some ⟨N2, 0, none⟩)), (6, .pointer (some ⟨N4, 0, none⟩)), (7, .int .i64 ((q : Nat) : Int))] (Pl.subl_cons rfl (Pl.subl_cons rfl (Pl.subl_cons rfl (Pl.subl_cons rfl Pl.subl_nil)))) (by omega) ⟨_, (Rt.kr b q), (k * q), (t / q), rfl, hj9, hpst.1, hX9, rfl⟩
                  · refine Pl.qA_lcw (v := .int .i64 ((t : Nat) : Int)) Tryz.underlying3 rfl (Pl.Cb.at (j := 0) hj5.c3 rfl) trivial rfl rfl rfl rfl rfl ?_
                    refine Pl.pA_end ?_
                    refine Pl.GI_plan [(true, 6, 53)] 117 5 (by repeat first | with_reducible exact Pl.pan_rp | with_reducible refine Pl.pn_block ?_ | with_reducible refine Pl.pn_then ?_ | with_reducible refine Pl.pan_ksI ?_) (by kernel_rfl) (by kernel_rfl) (by kernel_rfl) ?_
                    refine Pl.qA_b (v := .int .i64 (((t / q) : Nat) : Int)) (fun X => nb_quo_i64 (a := t) (b := q) (by omega) (by omega) X) trivial rfl rfl rfl rfl rfl rfl ?_
                    refine Pl.pA_end ?_
                    refine Pl.GI_any [1, 7] 4 (by kernel_rfl) (by kernel_rfl) (by kernel_rfl) (Pl.AllG_cons ?_ (Pl.AllG_cons ?_ Pl.AllG_nil))
                    · refine Pl.qA_lcw (v := .int .i64 ((k : Nat) : Int)) Tryz.underlying3 rfl (Pl.Cb.at (j := 0) hj5.c2 rfl) trivial rfl rfl rfl rfl rfl ?_
                      refine Pl.pA_end ?_
                      refine Pl.GI_plan [(true, 3, 119), (false, 7, 127), (false, 8, 255), (false, 9, 511)] 1023 0 (by repeat first | with_reducible exact Pl.pan_rp | with_reducible refine Pl.pn_block ?_ | with_reducible refine Pl.pn_then ?_ | with_reducible refine Pl.pan_ksI ?_) (by kernel_rfl) (by kernel_rfl) (by kernel_rfl) ?_
                      refine Pl.qA_b (v := .int .i64 (((k * q) : Nat) : Int)) (fun X => nb_mul_i64 (a := k) (b := q) (by omega) X) trivial rfl rfl rfl rfl rfl rfl ?_
                      refine Pl.qA_s1 (j := 0) (u := v3) hj5.c1 (Nat.succ_pos _) (by kernel_rfl) (one_sl hc5) (cells_sl hc5) rfl rfl rfl rfl rfl rfl (fun Y hY => trivial) ?_
                      intro w707 x7 k7
                      refine Pl.qA_s1 (j := 0) (u := .int .i64 ((k * q : Nat) : Int)) (Pl.Cb.xs hj5.c2 x7 (by simp; omega)) (Nat.succ_pos _) (by kernel_rfl) rfl rfl rfl rfl rfl rfl rfl rfl (fun Y hY => trivial) ?_
                      intro w708 x8 k8
                      refine Pl.qA_s1 (j := 0) (u := .int .i64 ((t / q : Nat) : Int)) (Pl.Cb.xs (Pl.Cb.xs hj5.c3 x7 (by simp; omega)) x8 (by simp; omega)) (Nat.succ_pos _) (by kernel_rfl) rfl rfl rfl rfl rfl rfl rfl rfl (fun Y hY => trivial) ?_
                      intro w709 x9 k9
                      refine Pl.pA_end ?_
                      refine Pl.G_VI (by kernel_rfl) ?_
                      have hj9 : PS w D { rec with state := .busy } N0 N1 N2 N4 (blen a - 1) v3 (Rt.kr b q) (k * q) (t / q) w709 := ⟨(Pl.Cb.xs (Pl.Cb.xs (Pl.Cb.xs hj5.c0 x7 (by simp; omega)) x8 (by simp; omega)) x9 (by simp; omega)), (Pl.Cb.xs (Pl.Cb.xs k7 x8 (by simp; omega)) x9 (by simp; omega)), (Un.one_cell (Un.one_cell (Un.one_cell hc5 hj5.c1 (sl_ne hj5.hu) x7) (Pl.Cb.xs hj5.c2 x7 (by simp; omega)) (fun z e => by cases e) x8) (Pl.Cb.xs (Pl.Cb.xs hj5.c3 x7 (by simp; omega)) x8 (by simp; omega)) (fun z e => by cases e) x9), (Pl.Cb.xs k8 x9 (by simp; omega)), k9, (((hj5.lq.xs x7 (by simp; omega)).xs x8 (by simp; omega)).xs x9 (by simp; omega))⟩
                      have hX9 : Pl.Xs [N1, N2, N4, D + 1] X w709 := (((hX5.trans (x7.drop (by simp))).trans (x8.drop (by simp))).trans (x9.drop (by simp)))
                      refine Pl.VI_endblock ?_
                      repeat refine Pl.VI_seq ?_
                      refine Pl.VI_again (k' := (Rt.kr b q)) [(1, .pointer (some ⟨N1, 0, none⟩)), (4, .pointer (some ⟨N2, 0, none⟩)), (6, .pointer (some ⟨N4, 0, none⟩)), (7, .int .i64 ((q : Nat) : Int))] (Pl.subl_cons rfl (Pl.subl_cons rfl (Pl.subl_cons rfl (Pl.subl_cons rfl Pl.subl_nil)))) (by omega) ⟨_, (Rt.kr b q), (k * q), (t / q), rfl, hj9, hpst.1, hX9, rfl⟩
                    · refine Pl.qA_s1 (j := 0) (u := v3) hj5.c1 (Nat.succ_pos _) (by kernel_rfl) (one_sl hc5) (cells_sl hc5) rfl rfl rfl rfl rfl rfl (fun Y hY => trivial) ?_
                      intro w707 x7 k7
                      refine Pl.pA_end ?_
                      refine Pl.GI_plan [(false, 1, 245), (true, 3, 247), (false, 8, 255), (false, 9, 511)] 1023 0 (by repeat first | with_reducible exact Pl.pan_rp | with_reducible refine Pl.pn_block ?_ | with_reducible refine Pl.pn_then ?_ | with_reducible refine Pl.pan_ksI ?_) (by kernel_rfl) (by kernel_rfl) (by kernel_rfl) ?_
                      refine Pl.qA_lcw (v := .int .i64 ((k : Nat) : Int)) Tryz.underlying3 rfl (Pl.Cb.at (j := 0) (Pl.Cb.xs hj5.c2 x7 (by simp; omega)) rfl) trivial rfl rfl rfl rfl rfl ?_
                      refine Pl.qA_b (v := .int .i64 (((k * q) : Nat) : Int)) (fun X => nb_mul_i64 (a := k) (b := q) (by omega) X) trivial rfl rfl rfl rfl rfl rfl ?_
                      refine Pl.qA_s1 (j := 0) (u := .int .i64 ((k * q : Nat) : Int)) (Pl.Cb.xs hj5.c2 x7 (by simp; omega)) (Nat.succ_pos _) (by kernel_rfl) rfl rfl rfl rfl rfl rfl rfl rfl (fun Y hY => trivial) ?_
                      intro w708 x8 k8
                      refine Pl.qA_s1 (j := 0) (u := .int .i64 ((t / q : Nat) : Int)) (Pl.Cb.xs (Pl.Cb.xs hj5.c3 x7 (by simp; omega)) x8 (by simp; omega)) (Nat.succ_pos _) (by kernel_rfl) rfl rfl rfl rfl rfl rfl rfl rfl (fun Y hY => trivial) ?_
                      intro w709 x9 k9
                      refine Pl.pA_end ?_
                      refine Pl.G_VI (by kernel_rfl) ?_
                      have hj9 : PS w D { rec with state := .busy } N0 N1 N2 N4 (blen a - 1) v3 (Rt.kr b q) (k * q) (t / q) w709 := ⟨(Pl.Cb.xs (Pl.Cb.xs (Pl.Cb.xs hj5.c0 x7 (by simp; omega)) x8 (by simp; omega)) x9 (by simp; omega)), (Pl.Cb.xs (Pl.Cb.xs k7 x8 (by simp; omega)) x9 (by simp; omega)), (Un.one_cell (Un.one_cell (Un.one_cell hc5 hj5.c1 (sl_ne hj5.hu) x7) (Pl.Cb.xs hj5.c2 x7 (by simp; omega)) (fun z e => by cases e) x8) (Pl.Cb.xs (Pl.Cb.xs hj5.c3 x7 (by simp; omega)) x8 (by simp; omega)) (fun z e => by cases e) x9), (Pl.Cb.xs k8 x9 (by simp; omega)), k9, (((hj5.lq.xs x7 (by simp; omega)).xs x8 (by simp; omega)).xs x9 (by simp; omega))⟩
                      have hX9 : Pl.Xs [N1, N2, N4, D + 1] X w709 := (((hX5.trans (x7.drop (by simp))).trans (x8.drop (by simp))).trans (x9.drop (by simp)))
                      refine Pl.VI_endblock ?_
                      repeat refine Pl.VI_seq ?_
                      refine Pl.VI_again (k' := (Rt.kr b q)) [(1, .pointer (some ⟨N1, 0, none⟩)), (4, .pointer (some ⟨N2, 0, none⟩)), (6, .pointer (some ⟨N4, 0, none⟩)), (7, .int .i64 ((q : Nat) : Int))] (Pl.subl_cons rfl (Pl.subl_cons rfl (Pl.subl_cons rfl (Pl.subl_cons rfl Pl.subl_nil)))) (by omega) ⟨_, (Rt.kr b q), (k * q), (t / q), rfl, hj9, hpst.1, hX9, rfl⟩
                  · refine Pl.qA_s1 (j := 0) (u := v3) hj5.c1 (Nat.succ_pos _) (by kernel_rfl) (one_sl hc5) (cells_sl hc5) rfl rfl rfl rfl rfl rfl (fun Y hY => trivial) ?_
                    intro w707 x7 k7
                    refine Pl.pA_end ?_
                    refine Pl.GI_any [1, 4] 5 (by kernel_rfl) (by kernel_rfl) (by kernel_rfl) (Pl.AllG_cons ?_ (Pl.AllG_cons ?_ Pl.AllG_nil))
                    · refine Pl.qA_lcw (v := .int .i64 ((k : Nat) : Int)) Tryz.underlying3 rfl (Pl.Cb.at (j := 0) (Pl.Cb.xs hj5.c2 x7 (by simp; omega)) rfl) trivial rfl rfl rfl rfl rfl ?_
                      refine Pl.pA_end ?_
                      refine Pl.GI_plan [(true, 3, 167)] 175 4 (by repeat first | with_reducible exact Pl.pan_rp | with_reducible refine Pl.pn_block ?_ | with_reducible refine Pl.pn_then ?_ | with_reducible refine Pl.pan_ksI ?_) (by kernel_rfl) (by kernel_rfl) (by kernel_rfl) ?_
                      refine Pl.qA_b (v := .int .i64 (((k * q) : Nat) : Int)) (fun X => nb_mul_i64 (a := k) (b := q) (by omega) X) trivial rfl rfl rfl rfl rfl rfl ?_
                      refine Pl.pA_end ?_
                      refine Pl.GI_any [4, 8] 3 (by kernel_rfl) (by kernel_rfl) (by kernel_rfl) (Pl.AllG_cons ?_ (Pl.AllG_cons ?_ Pl.AllG_nil))
                      · refine Pl.qA_lcw (v := .int .i64 ((t : Nat) : Int)) Tryz.underlying3 rfl (Pl.Cb.at (j := 0) (Pl.Cb.xs hj5.c3 x7 (by simp; omega)) rfl) trivial rfl rfl rfl rfl rfl ?_
                        refine Pl.pA_end ?_
                        refine Pl.GI_plan [(true, 6, 191), (false, 8, 255), (false, 9, 511)] 1023 0 (by repeat first | with_reducible exact Pl.pan_rp | with_reducible refine Pl.pn_block ?_ | with_reducible refine Pl.pn_then ?_ | with_reducible refine Pl.pan_ksI ?_) (by kernel_rfl) (by kernel_rfl) (by kernel_rfl) ?_
                        refine Pl.qA_b (v := .int .i64 (((t / q) : Nat) : Int)) (fun X => nb_quo_i64 (a := t) (b := q) (by omega) (by omega) X) trivial rfl rfl rfl rfl rfl rfl ?_
                        refine Pl.qA_s1 (j := 0) (u := .int .i64 ((k * q : Nat) : Int)) (Pl.Cb.xs hj5.c2 x7 (by simp; omega)) (Nat.succ_pos _) (by kernel_rfl) rfl rfl rfl rfl rfl rfl rfl rfl (fun Y hY => trivial) ?_
                        intro w708 x8 k8
                        refine Pl.qA_s1 (j := 0) (u := .int .i64 ((t / q : Nat) : Int)) (Pl.Cb.xs (Pl.Cb.xs hj5.c3 x7 (by simp; omega)) x8 (by simp; omega)) (Nat.succ_pos _) (by kernel_rfl) rfl rfl rfl rfl rfl rfl rfl rfl (fun Y hY => trivial) ?_
                        intro w709 x9 k9
                        refine Pl.pA_end ?_
                        refine Pl.G_VI (by kernel_rfl) ?_
                        have hj9 : PS w D { rec with state := .busy } N0 N1 N2 N4 (blen a - 1) v3 (Rt.kr b q) (k * q) (t / q) w709 := ⟨(Pl.Cb.xs (Pl.Cb.xs (Pl.Cb.xs hj5.c0 x7 (by simp; omega)) x8 (by simp; omega)) x9 (by simp; omega)), (Pl.Cb.xs (Pl.Cb.xs k7 x8 (by simp; omega)) x9 (by simp; omega)), (Un.one_cell (Un.one_cell (Un.one_cell hc5 hj5.c1 (sl_ne hj5.hu) x7) (Pl.Cb.xs hj5.c2 x7 (by simp; omega)) (fun z e => by cases e) x8) (Pl.Cb.xs (Pl.Cb.xs hj5.c3 x7 (by simp; omega)) x8 (by simp; omega)) (fun z e => by cases e) x9), (Pl.Cb.xs k8 x9 (by simp; omega)), k9, (((hj5.lq.xs x7 (by simp; omega)).xs x8 (by simp; omega)).xs x9 (by simp; omega))⟩
                        have hX9 : Pl.Xs [N1, N2, N4, D + 1] X w709 := (((hX5.trans (x7.drop (by simp))).trans (x8.drop (by simp))).trans (x9.drop (by simp)))
                        refine Pl.VI_endblock ?_
                        repeat refine Pl.VI_seq ?_
                        refine Pl.VI_again (k' := (Rt.kr b q)) [(1, .pointer (some ⟨N1, 0, none⟩)), (4, .pointer (some ⟨N2, 0, none⟩)), (6, .pointer (some ⟨N4, 0, none⟩)), (7, .int .i64 ((q : Nat) : Int))] (Pl.subl_cons rfl (Pl.subl_cons rfl (Pl.subl_cons rfl (Pl.subl_cons rfl Pl.subl_nil)))) (by omega) ⟨_, (Rt.kr b q), (k * q), (t / q), rfl, hj9, hpst.1, hX9, rfl⟩
                      · refine Pl.qA_s1 (j := 0) (u := .int .i64 ((k * q : Nat) : Int)) (Pl.Cb.xs hj5.c2 x7 (by simp; omega)) (Nat.succ_pos _) (by kernel_rfl) rfl rfl rfl rfl rfl rfl rfl rfl (fun Y hY => trivial) ?_
                        intro w708 x8 k8
                        refine Pl.pA_end ?_
                        refine Pl.GI_plan [(false, 4, 431), (true, 6, 447), (false, 9, 511)] 1023 0 (by repeat first | with_reducible exact Pl.pan_rp | with_reducible refine Pl.pn_block ?_ | with_reducible refine Pl.pn_then ?_ | with_reducible refine Pl.pan_ksI ?_) (by kernel_rfl) (by kernel_rfl) (by kernel_rfl) ?_
                        refine Pl.qA_lcw (v := .int .i64 ((t : Nat) : Int)) Tryz.underlying3 rfl (Pl.Cb.at (j := 0) (Pl.Cb.xs (Pl.Cb.xs hj5.c3 x7 (by simp; omega)) x8 (by simp; omega)) rfl) trivial rfl rfl rfl rfl rfl ?_
                        refine Pl.qA_b (v := .int .i64 (((t / q) : Nat) : Int)) (fun X => nb_quo_i64 (a := t) (b := q) (by omega) (by omega) X) trivial rfl rfl rfl rfl rfl rfl ?_
                        refine Pl.qA_s1 (j := 0) (u := .int .i64 ((t / q : Nat) : Int)) (Pl.Cb.xs (Pl.Cb.xs hj5.c3 x7 (by simp; omega)) x8 (by simp; omega)) (Nat.succ_pos _) (by kernel_rfl) rfl rfl rfl rfl rfl rfl rfl rfl (fun Y hY => trivial) ?_
                        intro w709 x9 k9
                        refine Pl.pA_end ?_
                        refine Pl.G_VI (by kernel_rfl) ?_
                        have hj9 : PS w D { rec with state := .busy } N0 N1 N2 N4 (blen a - 1) v3 (Rt.kr b q) (k * q) (t / q) w709 := ⟨(Pl.Cb.xs (Pl.Cb.xs (Pl.Cb.xs hj5.c0 x7 (by simp; omega)) x8 (by simp; omega)) x9 (by simp; omega)), (Pl.Cb.xs (Pl.Cb.xs k7 x8 (by simp; omega)) x9 (by simp; omega)), (Un.one_cell (Un.one_cell (Un.one_cell hc5 hj5.c1 (sl_ne hj5.hu) x7) (Pl.Cb.xs hj5.c2 x7 (by simp; omega)) (fun z e => by cases e) x8) (Pl.Cb.xs (Pl.Cb.xs hj5.c3 x7 (by simp; omega)) x8 (by simp; omega)) (fun z e => by cases e) x9), (Pl.Cb.xs k8 x9 (by simp; omega)), k9, (((hj5.lq.xs x7 (by simp; omega)).xs x8 (by simp; omega)).xs x9 (by simp; omega))⟩
                        have hX9 : Pl.Xs [N1, N2, N4, D + 1] X w709 := (((hX5.trans (x7.drop (by simp))).trans (x8.drop (by simp))).trans (x9.drop (by simp)))
                        refine Pl.VI_endblock ?_
                        repeat refine Pl.VI_seq ?_
                        refine Pl.VI_again (k' := (Rt.kr b q)) [(1, .pointer (some ⟨N1, 0, none⟩)), (4, .pointer (some ⟨N2, 0, none⟩)), (6, .pointer (some ⟨N4, 0, none⟩)), (7, .int .i64 ((q : Nat) : Int))] (Pl.subl_cons rfl (Pl.subl_cons rfl (Pl.subl_cons rfl (Pl.subl_cons rfl Pl.subl_nil)))) (by omega) ⟨_, (Rt.kr b q), (k * q), (t / q), rfl, hj9, hpst.1, hX9, rfl⟩
                    · refine Pl.qA_lcw (v := .int .i64 ((t : Nat) : Int)) Tryz.underlying3 rfl (Pl.Cb.at (j := 0) (Pl.Cb.xs hj5.c3 x7 (by simp; omega)) rfl) trivial rfl rfl rfl rfl rfl ?_
                      refine Pl.pA_end ?_
                      refine Pl.GI_plan [(true, 6, 181), (false, 1, 245), (true, 3, 247), (false, 8, 255), (false, 9, 511)] 1023 0 (by repeat first | with_reducible exact Pl.pan_rp | with_reducible refine Pl.pn_block ?_ | with_reducible refine Pl.pn_then ?_ | with_reducible refine Pl.pan_ksI ?_) (by kernel_rfl) (by kernel_rfl) (by kernel_rfl) ?_
                      refine Pl.qA_b (v := .int .i64 (((t / q) : Nat) : Int)) (fun X => nb_quo_i64 (a := t) (b := q) (by omega) (by omega) X) trivial rfl rfl rfl rfl rfl rfl ?_
                      refine Pl.qA_lcw (v := .int .i64 ((k : Nat) : Int)) Tryz.underlying3 rfl (Pl.Cb.at (j := 0) (Pl.Cb.xs hj5.c2 x7 (by simp; omega)) rfl) trivial rfl rfl rfl rfl rfl ?_
                      refine Pl.qA_b (v := .int .i64 (((k * q) : Nat) : Int)) (fun X => nb_mul_i64 (a := k) (b := q) (by omega) X) trivial rfl rfl rfl rfl rfl rfl ?_
                      refine Pl.qA_s1 (j := 0) (u := .int .i64 ((k * q : Nat) : Int)) (Pl.Cb.xs hj5.c2 x7 (by simp; omega)) (Nat.succ_pos _) (by kernel_rfl) rfl rfl rfl rfl rfl rfl rfl rfl (fun Y hY => trivial) ?_
                      intro w708 x8 k8
                      refine Pl.qA_s1 (j := 0) (u := .int .i64 ((t / q : Nat) : Int)) (Pl.Cb.xs (Pl.Cb.xs hj5.c3 x7 (by simp; omega)) x8 (by simp; omega)) (Nat.succ_pos _) (by kernel_rfl) rfl rfl rfl rfl rfl rfl rfl rfl (fun Y hY => trivial) ?_
                      intro w709 x9 k9
                      refine Pl.pA_end ?_
                      refine Pl.G_VI (by kernel_rfl) ?_
                      have hj9 : PS w D { rec with state := .busy } N0 N1 N2 N4 (blen a - 1) v3 (Rt.kr b q) (k * q) (t / q) w709 := ⟨(Pl.Cb.xs (Pl.Cb.xs (Pl.Cb.xs hj5.c0 x7 (by simp; omega)) x8 (by simp; omega)) x9 (by simp; omega)), (Pl.Cb.xs (Pl.Cb.xs k7 x8 (by simp; omega)) x9 (by simp; omega)), (Un.one_cell (Un.one_cell (Un.one_cell hc5 hj5.c1 (sl_ne hj5.hu) x7) (Pl.Cb.xs hj5.c2 x7 (by simp; omega)) (fun z e => by cases e) x8) (Pl.Cb.xs (Pl.Cb.xs hj5.c3 x7 (by simp; omega)) x8 (by simp; omega)) (fun z e => by cases e) x9), (Pl.Cb.xs k8 x9 (by simp; omega)), k9, (((hj5.lq.xs x7 (by simp; omega)).xs x8 (by simp; omega)).xs x9 (by simp; omega))⟩
                      have hX9 : Pl.Xs [N1, N2, N4, D + 1] X w709 := (((hX5.trans (x7.drop (by simp))).trans (x8.drop (by simp))).trans (x9.drop (by simp)))
                      refine Pl.VI_endblock ?_
                      repeat refine Pl.VI_seq ?_
                      refine Pl.VI_again (k' := (Rt.kr b q)) [(1, .pointer (some ⟨N1, 0, none⟩)), (4, .pointer (some ⟨N2, 0, none⟩)), (6, .pointer (some ⟨N4, 0, none⟩)), (7, .int .i64 ((q : Nat) : Int))] (Pl.subl_cons rfl (Pl.subl_cons rfl (Pl.subl_cons rfl (Pl.subl_cons rfl Pl.subl_nil)))) (by omega) ⟨_, (Rt.kr b q), (k * q), (t / q), rfl, hj9, hpst.1, hX9, rfl⟩
                · refine Pl.pA_call rfl rfl rfl rfl rfl (fun u X => Pl.enters Tryz.func50 (by kernel_rfl) rfl u X) ?_
                  refine Calls.mono (equal_calls _ _ _ ((Rt.kr b q) ^ q) b hv4 (Un.below hjl.hu (Pl.Ex.trans hE3 (Pl.Ex.trans hE4 (Pl.Ex.trans hE5 (Pl.Ex.trans hE6 hE7)))))) ?_
                  rintro e w8 ⟨rfl, hE8⟩
                  rw [decide_eq_false c5]
                  have sz8 := Pl.Ex.size hE8
                  have hS8 := Pl.Ex.trans hS7 hE8
                  refine ⟨_, rfl, hS8, ?_⟩
                  refine Pl.qA_un (v := .bool true) hS8 rfl rfl rfl rfl rfl (fun X => rfl) ?_
                  refine Pl.pA_end ?_
                  repeat refine Pl.VI_seq ?_
                  refine Pl.VI_true rfl ?_
                  repeat refine Pl.VI_seq ?_
                  refine Pl.VI_exitTo fun aQ hQ => ?_
                  refine Pl.exit_ne rfl (Pl.KsI_exit ?_)
                  refine Pl.exit_then (Pl.KsI_exit (cs := []) ?_)
                  refine Pl.exit_eq ?_
                  refine Pl.at_VI hQ ?_
                  clear hQ
                  exact Pl.VI_use [(1, .pointer (some ⟨N1, 0, none⟩)), (4, .pointer (some ⟨N2, 0, none⟩)), (6, .pointer (some ⟨N4, 0, none⟩)), (7, .int .i64 ((q : Nat) : Int))] hcut (Pl.subl_cons rfl (Pl.subl_cons rfl (Pl.subl_cons rfl (Pl.subl_cons rfl Pl.subl_nil)))) ⟨vb, b, k, t, hjl.ex (Pl.Ex.trans hE3 (Pl.Ex.trans hE4 (Pl.Ex.trans hE5 (Pl.Ex.trans hE6 (Pl.Ex.trans hE7 hE8))))), hp, c5, hXl.trans (Pl.Xs.ex (Pl.Ex.trans hE3 (Pl.Ex.trans hE4 (Pl.Ex.trans hE5 (Pl.Ex.trans hE6 (Pl.Ex.trans hE7 hE8)))))), rfl⟩
            · refine Pl.qA_b (v := .bool false) (fun X => Pl.r_eql (Pl.e_f (by omega)) X) trivial rfl rfl rfl rfl rfl rfl ?_
              refine Pl.qA_go trivial rfl ?_
              refine Pl.pA_end ?_
              repeat refine Pl.VI_seq ?_
              refine Pl.VI_false rfl ?_
              repeat refine Pl.VI_seq ?_
              refine Pl.VI_exitTo fun aQ hQ => ?_
              refine Pl.exit_then (Pl.KsI_exit (cs := []) ?_)
              refine Pl.exit_eq ?_
              refine Pl.at_VI hQ ?_
              clear hQ
              exact Pl.VI_use [(1, .pointer (some ⟨N1, 0, none⟩)), (4, .pointer (some ⟨N2, 0, none⟩)), (6, .pointer (some ⟨N4, 0, none⟩)), (7, .int .i64 ((q : Nat) : Int))] hcut (Pl.subl_cons rfl (Pl.subl_cons rfl (Pl.subl_cons rfl (Pl.subl_cons rfl Pl.subl_nil)))) ⟨vb, b, k, t, hjl.ex hE3, hp, (hp.tw (by omega) c2), hXl.trans (Pl.Xs.ex hE3), rfl⟩
          · refine Pl.qA_b (v := .bool false) (fun X => Pl.r_lss (decide_eq_false (by omega)) X) trivial rfl rfl rfl rfl rfl rfl ?_
            refine Pl.qA_go trivial rfl ?_
            refine Pl.pA_end ?_
            repeat refine Pl.VI_seq ?_
            refine Pl.VI_false rfl ?_
            repeat refine Pl.VI_seq ?_
            refine Pl.VI_exitTo fun aQ hQ => ?_
            refine Pl.exit_then (Pl.KsI_exit (cs := []) ?_)
            refine Pl.exit_eq ?_
            refine Pl.at_VI hQ ?_
            clear hQ
            exact Pl.VI_use [(1, .pointer (some ⟨N1, 0, none⟩)), (4, .pointer (some ⟨N2, 0, none⟩)), (6, .pointer (some ⟨N4, 0, none⟩)), (7, .int .i64 ((q : Nat) : Int))] hcut (Pl.subl_cons rfl (Pl.subl_cons rfl (Pl.subl_cons rfl (Pl.subl_cons rfl Pl.subl_nil)))) ⟨vb, b, k, t, hjl.ex hE3, hp, (kr_two hp.b2 (by omega)), hXl.trans (Pl.Xs.ex hE3), rfl⟩
      rintro e w7 ⟨rfl, (⟨vb, b, k, t, hj, hp⟩ | ⟨vb, b, k, t, hj, he, hpr, hk1, hkl⟩)⟩
      · have hpr : Rt.Prim b := hp.end1 (by have := blen_mono hp.ba; omega)
        have he := hp.eq
        have hk1 := hp.k1
        have hkl := hp.k_lt
        refine ⟨_, rec, rfl, hj.lq.loop, by rw [hrec]; simp, ?_⟩
        have hL7 := hj.lq.put hwD { rec with state := .exhausted }
        have x7 := Xs.putObj w7 (D + 1) (.loop { rec with state := .exhausted })
        have hj7 := hj.put hoD x7 hL7
        clear hj hL7 x7
        rw [hrec]
        dsimp only
        rw [hrec] at hj7
        generalize w7.putObj (D + 1) _ = w8 at *
        refine Pl.V_endblock ?_
        repeat refine Pl.V_seq ?_
        have hEd := Pl.Ex.drew w8
        have hj8 := hj7.ex hEd
        clear hj7
        obtain ⟨A8, c8, rfl, -⟩ := un_open hj8.hu
        refine Pl.V_draw (S := fun X => Pl.Cb X N1 22 [(.slice A8 (limbs b).length c8)] ∧ Pl.Cb X N2 3 [.int .i64 ((k : Nat) : Int)]) [(true, 0, 0), (true, 1, 1), (true, 2, 3), (true, 3, 7)] fo Pl.postM_panic (by kernel_rfl) ⟨hj8.c1, hj8.c2⟩ ?_
        generalize w8.drew = w9 at *
        intro hS
        refine Pl.qA_lc (v := (.slice A8 (limbs b).length c8)) Tryz.underlying22 rfl (fun X hX => Pl.Cb.at (j := 0) hX.1 rfl) hS rfl rfl rfl rfl rfl ?_
        refine Pl.qA_lc (v := .int .i64 ((k : Nat) : Int)) Tryz.underlying3 rfl (fun X hX => Pl.Cb.at (j := 0) hX.2 rfl) hS rfl rfl rfl rfl rfl ?_
        refine Pl.qA_go hS rfl ?_
        refine Pl.pA_end ?_
        repeat refine Pl.V_seq ?_
        have xz := Xs.putObj w9 D (.deferred none)
        have huz := Un.defs hj8.hu hj8.lq.dfr xz
        exact Pl.postM_leave hj8.lq.dfr (Pl.results_of2 rfl rfl rfl) ⟨_, b, k, rfl, huz, .inr ⟨gt_one (by assumption), he, hpr, hk1⟩, Ex.xsl hj8.lq.ext xz (by simp; omega)⟩
      · refine ⟨_, _, rfl, hj.lq.loop, by simp, ?_⟩
        have hL7 := hj.lq.put hwD { { rec with state := .done, pending := some (.exit 2) } with state := .exhausted }
        have x7 := Xs.putObj w7 (D + 1) (.loop { { rec with state := .done, pending := some (.exit 2) } with state := .exhausted })
        have hj7 := hj.put hoD x7 hL7
        dsimp only
        clear hj hL7 x7
        generalize w7.putObj (D + 1) (Obj.loop _) = w8 at *
        refine Pl.V_exitHere ?_
        repeat refine Pl.V_seq ?_
        have hEd := Pl.Ex.drew w8
        have hj8 := hj7.ex hEd
        clear hj7
        obtain ⟨A8, c8, rfl, -⟩ := un_open hj8.hu
        refine Pl.V_draw (S := fun X => Pl.Cb X N1 22 [(.slice A8 (limbs b).length c8)] ∧ Pl.Cb X N2 3 [.int .i64 ((k : Nat) : Int)]) [(true, 0, 0), (true, 1, 1), (true, 2, 3), (true, 3, 7)] fo Pl.postM_panic (by kernel_rfl) ⟨hj8.c1, hj8.c2⟩ ?_
        generalize w8.drew = w9 at *
        intro hS
        refine Pl.qA_lc (v := (.slice A8 (limbs b).length c8)) Tryz.underlying22 rfl (fun X hX => Pl.Cb.at (j := 0) hX.1 rfl) hS rfl rfl rfl rfl rfl ?_
        refine Pl.qA_lc (v := .int .i64 ((k : Nat) : Int)) Tryz.underlying3 rfl (fun X hX => Pl.Cb.at (j := 0) hX.2 rfl) hS rfl rfl rfl rfl rfl ?_
        refine Pl.qA_go hS rfl ?_
        refine Pl.pA_end ?_
        repeat refine Pl.V_seq ?_
        have xz := Xs.putObj w9 D (.deferred none)
        have huz := Un.defs hj8.hu hj8.lq.dfr xz
        exact Pl.postM_leave hj8.lq.dfr (Pl.results_of2 rfl rfl rfl) ⟨_, b, k, rfl, huz, .inr ⟨gt_one (by assumption), he, hpr, hk1⟩, Ex.xsl hj8.lq.ext xz (by simp; omega)⟩
end Go.Proofs.YtbdmncpibnligaaGreatDoor
