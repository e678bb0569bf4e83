/- An entry as a record. -/
import Derived.Test.YtmioaeaobefphaaDoorBah

namespace Go.Proofs.YtmioaeaobefphaaDoor
open Go.RowKit 
set_option linter.unusedVariables false
set_option linter.unusedSimpArgs false
set_option maxRecDepth 100000
set_option maxHeartbeats 4000000
theorem By.ofCb {w : World} {N : Nat} {bs : T.Byt} (h : Pl.Cb w N 5 (cB bs)) (hm : bs.length ≤ 1000000) : By w N (.slice (some ⟨N, 0, none⟩) bs.length bs.length) bs := Pl.Sl.ofCb (s := 1) h (by omega)
theorem conv_from {w : World} {lo : Nat} {v : Value} {bs : T.Byt} (h : By w lo v bs) : (convert 22 9 v).run Tryd.prog w = .ok (.string (mkS bs)) w := by
  obtain ⟨A, c, rfl, h1, h2, h3⟩ := h
  cases A with
  | none =>
    have h0 : bs = [] := by
      rcases Nat.eq_zero_or_pos bs.length with h | h
      · exact List.eq_nil_of_length_eq_zero h
      · obtain ⟨ad, e, _⟩ := h3 (by rw [cB_len]; exact h); cases e
    subst h0
    show (convert 22 9 (.slice none 0 c)).run Tryd.prog w = _
    rw [run_convert_bytes_string w _ _ 5 none 0 c Tryd.underlying22 Tryd.underlying5 Tryd.underlying9]
    rfl
  | some ad =>
    rcases Nat.eq_zero_or_pos bs.length with h | h
    · obtain rfl := List.eq_nil_of_length_eq_zero h
      exact run_convert_bytes_back (P := Tryd.prog) w 22 9 5 ad c [] Tryd.underlying22 Tryd.underlying5 Tryd.underlying9 (fun j hj => by simp at hj)
    · obtain ⟨ad', e, _, _, hc⟩ := h3 (by rw [cB_len]; exact h)
      cases e
      exact run_convert_bytes_back (P := Tryd.prog) w 22 9 5 ad c bs Tryd.underlying22 Tryd.underlying5 Tryd.underlying9 (fun j hj => hc j _ (cB_get hj))
theorem conv_to (w : World) (bs : T.Byt) : ∃ v w', (convert 9 22 (.string (mkS bs))).run Tryd.prog w = .ok v w' ∧ (bs.length ≤ 1000000 → By w' w.heap.size v bs) ∧ Pl.Ex w w' := by
  have hr := run_bytes_of_string (P := Tryd.prog) w 9 22 5 (mkS bs) Tryd.underlying9 Tryd.underlying22 Tryd.underlying5
  have hx : Pl.Ex w (w.drew.alloc (.cells (bytesRow (mkS bs) (grownCap w (mkS bs).size 0 5)) 5 ((bytesRow (mkS bs) (grownCap w (mkS bs).size 0 5)).size, (bytesRow (mkS bs) (grownCap w (mkS bs).size 0 5)).size + 1))) := Pl.Ex.trans (Pl.Ex.drew w) (Pl.Ex.alloc _ _)
  refine ⟨_, _, hr, fun hm => ⟨_, _, rfl, grownCap_ge w _ 0 _, ?_, fun h0 => ⟨_, rfl, Nat.le_refl _, by simp, fun j u hj => ?_⟩⟩, hx⟩
  · have := grownCap_le_maxLen w (mkS bs).size 0 5 (by rw [mkS_size]; unfold maxLen; omega)
    unfold maxLen at this; omega
  · rw [Addr.add_mid, Nat.zero_add]
    have hlt := (List.getElem?_eq_some_iff.1 hj).1
    unfold World.cell?
    rw [show (World.alloc w.drew _).heap[w.heap.size]? = some _ from _root_.Go.heap_alloc_new w.drew _]
    simp only
    rw [if_neg (by simp [bytesRow, cB_len, mkS_size] at hlt ⊢)]
    simp only [bytesRow]
    rw [Array.getElem?_append_left (by simpa [cB_len, mkS] using hlt)]
    simpa [mkS, cB] using hj
section
variable {L : List Oper} {S : World → Prop} {K : List (Nat × Value) → World → Prop} {k : Bool} {i m d : Nat} {o : Oper} {x y : Operand} {r : List (Bool × Nat × Nat)} {l : List (Nat × Value)} {w w' : World} {v : Value}
theorem qA_fs {lo : Nat} {bs : T.Byt} (h0 : ∀ X, S X → By X lo v bs) (hS : S w) (ho : Pl.nth L i = some o) (hop : o.op = .convert 22 9 x) (hd : o.dst = some d) (hg : Pl.gd L l o.guard = some true) (hx : Pl.opv l x = some v)
    (h : Pl.wpA Tryd.prog L S K r ((d, .string (mkS bs)) :: l) w) : Pl.wpA Tryd.prog L S K ((k, i, m) :: r) l w :=
  Pl.pA_pure hS ho hd hg (fun ρ hρ X hX => by unfold execOp; rw [hop]; exact Pl.run_val _ X (by rw [hρ.opv hx]; exact conv_from (h0 X hX))) h
theorem qA_ts {bs : T.Byt} (hm : bs.length ≤ 1000000) (ho : Pl.nth L i = some o) (hop : o.op = .convert 9 22 x) (hd : o.dst = some d) (hg : Pl.gd L l o.guard = some true) (hx : Pl.opv l x = some (.string (mkS bs))) (hS : ∀ Y, Pl.Ex w Y → S Y)
    (h : ∀ v w', Pl.Ex w w' → By w' w.heap.size v bs → Pl.wpA Tryd.prog L S K r ((d, v) :: l) w') : Pl.wpA Tryd.prog L S K ((false, i, m) :: r) l w := by
  obtain ⟨v, w1, hr, hb, hE⟩ := conv_to w bs
  exact Pl.pA_val ho hd hg (fun ρ hρ => by unfold execOp; rw [hop]; exact Pl.run_valW _ (by rw [hρ.opv hx]; exact hr)) (hS _ hE) (h _ _ hE (hb hm))
/-- Noughts, a row of none of them, with room. -/
theorem qA_mk {n : Nat} (h0 : 0 < n) (hn : n ≤ 1000000000) (ho : Pl.nth L i = some o) (hop : o.op = .call { callee := .builtin .append, args := #[x, y], argTypes := #[22, 3] }) (hd : o.dst = some d) (hg : Pl.gd L l o.guard = some true) (hx : Pl.opv l x = some (.slice none 0 0)) (hy : Pl.opv l y = some (.int .i64 ((n : Nat) : Int))) (hS : ∀ Y, Pl.Ex w Y → S Y)
    (h : ∀ g c w', Pl.Ex w w' → n ≤ c → Gy w' w.heap.size (.slice (some ⟨g, 0, none⟩) 0 c) [] → Pl.wpA Tryd.prog L S K r ((d, .slice (some ⟨g, 0, none⟩) n c) :: l) w') : Pl.wpA Tryd.prog L S K ((false, i, m) :: r) l w := by
  have hinf : (Tryd.prog.info? 5).map (fun i => (i.zero, i.size, i.bytes)) = some (some (.int .u8 0), 1, 1) := by kernel_rfl
  obtain ⟨inf, hi, hz⟩ := Option.map_eq_some_iff.1 hinf
  simp only [Prod.mk.injEq] at hz
  obtain ⟨hz1, hz2, hz3⟩ := hz
  have hr := Lib.run_append_nil_zeros (P := Tryd.prog) w 22 3 o.type 5 inf (.int .u8 0) .i64 .i64 Tryd.underlying22 Tryd.underlying3 hi hz1 n h0 (by omega) (by omega) (by rw [hz3]; omega)
  have hE : Pl.Ex w (w.drew.alloc (.cells (Builtin.zeroCells (Value.int .u8 0).cells n ++ Builtin.zeroCells (Value.int .u8 0).cells (grownCap w n 0 5 - n)) 5)) := Pl.Ex.trans (Pl.Ex.drew w) (Pl.Ex.alloc _ _)
  have hge := grownCap_ge w n 0 5
  have hcm := grownCap_le_maxLen w n 0 5 (by unfold maxLen; omega)
  have hG : Gy (w.drew.alloc (.cells (Builtin.zeroCells (Value.int .u8 0).cells n ++ Builtin.zeroCells (Value.int .u8 0).cells (grownCap w n 0 5 - n)) 5)) w.heap.size (.slice (some ⟨w.heap.size, 0, none⟩) 0 (grownCap w n 0 5)) [] := by
    refine ⟨rfl, .inr ⟨_, _, _, rfl, Nat.le_refl _, _root_.Go.heap_alloc_new _ _, Nat.zero_le _, hcm, ?_, rfl, fun _ _ => trivial⟩⟩
    simp only [Array.size_append, size_zeroCells]
    show n * 1 + (grownCap w n 0 5 - n) * 1 = grownCap w n 0 5 * 1
    omega
  have hk := h _ _ _ hE hge hG
  exact Pl.pA_val ho hd hg (fun ρ hρ => by
    obtain ⟨d', op', t', ps', af', gu'⟩ := o
    cases hop
    have e1 := hρ.opv hx
    have e2 := hρ.opv hy
    exact Pl.run_valW (Builtin.append_ _ _ (#[x, y].map ρ)) (by rw [show #[x, y].map ρ = #[.slice none 0 0, .int .i64 ((n : Nat) : Int)] from by simp [e1, e2]]; exact hr)) (hS _ hE) hk
end
theorem Pl.Gr.mono {ok : Value → Prop} {w : World} {base base' : Nat} {e : TypeId} {size : Nat} {v : Value} {n : Nat} {xs : List Value} (h : Pl.Gr ok w base e size v n xs) (hb : base' ≤ base) : Pl.Gr ok w base' e size v n xs :=
  ⟨h.1, h.2.imp id fun ⟨g, cap, cur, h1, h2, h3⟩ => ⟨g, cap, cur, h1, Nat.le_trans hb h2, h3⟩⟩
theorem cutA_zero {A : Option Addr} {h c s : Nat} : Pl.cutA A 0 h c s = .slice A h c := by
  unfold Pl.cutA
  rw [Nat.zero_mul]
  have e : ∀ a : Addr, a.add 0 = a := fun a => by simp [Addr.add]
  cases A <;> simp [e]
theorem sumE {v : Value} {lo : Nat} {bs : T.Byt} (w : World) (h : By w lo v bs) (hg : Gl w) : Calls Tryd.prog 17 #[v] w fun e w' => e = .returned (.int .u32 ((T.csum bs : Nat) : Int)) ∧ Pl.Ex w w' := (sum_calls w v lo bs h hg).mono fun e w' ⟨h1, h2⟩ => ⟨h1, by rw [h2]; exact Pl.Ex.refl _⟩
theorem rsumE {v : Value} {lo : Nat} {bs : T.Byt} (w : World) (h : By w lo v bs) : Calls Tryd.prog 18 #[v] w fun e w' => e = .returned (.int .u32 ((T.csum bs : Nat) : Int)) ∧ Pl.Ex w w' := (rsum_calls w v lo bs h).mono fun e w' ⟨h1, h2⟩ => ⟨h1, by rw [h2]; exact Pl.Ex.refl _⟩
theorem record_calls (w : World) (e0 : T.Ent) (hm : T.May e0) (hg : Gl w) :
    Calls Tryd.prog 26 #[.agg #[.string (mkS e0.1), .string (mkS e0.2)]] w fun e w' => ∃ v, e = .returned v ∧ Gy w' w.heap.size v (T.recd e0) ∧ Pl.Ex w w' := by
  obtain ⟨m1, m2, m3⟩ := hm
  have hs1 := mkS_size e0.1
  have hs2 := mkS_size e0.2
  refine Pl.calls_by (n := 34) (vs := [.agg #[.string (mkS e0.1), .string (mkS e0.2)]]) Tryd.func26 rfl (by kernel_rfl) (by simp) ?_
  repeat refine Pl.V_seq ?_
  refine Pl.V_region (by kernel_rfl) ?_
  refine Pl.qA_bx (cs := [.string (mkS e0.1), .string (mkS e0.2)]) rfl rfl rfl rfl rfl rfl (fun Y hY => trivial) ?_
  intro N1 w1 hE1 hN_N1 k_N1_0
  have z_N1 := Pl.Cb.lt k_N1_0
  have sz1 := Pl.Ex.size hE1
  refine Pl.qA_go trivial rfl ?_
  refine Pl.pA_end ?_
  repeat refine Pl.V_seq ?_
  refine Pl.V_region (by kernel_rfl) ?_
  refine Pl.qA_ev (.pointer (some ⟨N1, 0, none⟩)) trivial rfl rfl rfl rfl (fun X => by kernel_rfl) ?_
  refine Pl.qA_lcw (v := .string (mkS e0.1)) Tryd.underlying9 rfl (Pl.Cb.at (j := 0) k_N1_0 rfl) trivial rfl rfl rfl rfl rfl ?_
  refine Pl.qA_lt Tryd.underlying9 trivial rfl rfl rfl rfl rfl ?_
  refine Pl.qA_b (v := .int .i64 (((1 + e0.1.length) : Nat) : Int)) (fun X => Pl.r_add (Pl.a64 (a := 1) (b := e0.1.length) rfl rfl (by omega)) X) trivial rfl rfl rfl rfl rfl rfl ?_
  refine Pl.qA_ev (.pointer (some ⟨N1, 1, none⟩)) trivial rfl rfl rfl rfl (fun X => by kernel_rfl) ?_
  refine Pl.qA_lcw (v := .string (mkS e0.2)) Tryd.underlying9 rfl (Pl.Cb.at (j := 1) k_N1_0 rfl) trivial rfl rfl rfl rfl rfl ?_
  refine Pl.qA_lt Tryd.underlying9 trivial rfl rfl rfl rfl rfl ?_
  refine Pl.qA_b (v := .int .i64 ((((1 + e0.1.length) + e0.2.length) : Nat) : Int)) (fun X => Pl.r_add (Pl.a64 (a := (1 + e0.1.length)) (b := e0.2.length) rfl rfl (by omega)) X) trivial rfl rfl rfl rfl rfl rfl ?_
  refine Pl.qA_cv (c := ((((1 + e0.1.length) + e0.2.length) : Nat) : Int)) Tryd.underlying33 (by kernel_rfl) (Pl.c_id (a := ((1 + e0.1.length) + e0.2.length)) rfl (Pl.w32 (by omega) (by omega))) trivial rfl rfl rfl rfl rfl ?_
  refine Pl.pA_call rfl rfl rfl rfl rfl (fun u X => Pl.enters Tryd.func33 (by kernel_rfl) rfl u X) ?_
  refine Calls.mono (four_calls _ (1 + e0.1.length + e0.2.length) (by omega)) ?_
  rintro e w2 ⟨v0, rfl, g0, hE2⟩
  have sz2 := Pl.Ex.size hE2
  refine ⟨_, rfl, trivial, ?_⟩
  refine Pl.qA_go trivial rfl ?_
  refine Pl.pA_end ?_
  have l0 := T.four_len (1 + e0.1.length + e0.2.length)
  have ls : [UInt8.ofNat e0.1.length].length = 1 := rfl
  repeat refine Pl.V_seq ?_
  refine Pl.V_region (by kernel_rfl) ?_
  refine Pl.qA_go trivial rfl ?_
  refine Pl.qA_ev (.pointer (some ⟨N1, 0, none⟩)) trivial rfl rfl rfl rfl (fun X => by kernel_rfl) ?_
  refine Pl.qA_lcw (v := .string (mkS e0.1)) Tryd.underlying9 rfl (Pl.Cb.at (j := 0) (Pl.Cb.ex k_N1_0 hE2) rfl) trivial rfl rfl rfl rfl rfl ?_
  refine Pl.qA_lt Tryd.underlying9 trivial rfl rfl rfl rfl rfl ?_
  refine Pl.qA_cv (c := (((UInt8.ofNat e0.1.length).toNat : Nat) : Int)) Tryd.underlying5 (by kernel_rfl) (Pl.w8o rfl) trivial rfl rfl rfl rfl rfl ?_
  refine Pl.qA_bs (e := 5) (n := 1) [.int .u8 (((UInt8.ofNat e0.1.length).toNat : Nat) : Int)] rfl rfl rfl rfl (by kernel_rfl) (fun Y hY => trivial) ?_
  intro N2 w3 hE3 hN_N2 k_N2_0
  have z_N2 := Pl.Cb.lt k_N2_0
  have sz3 := Pl.Ex.size hE3
  refine Pl.qA_gr (bytes := 1) (z := .int .u8 0) (tx := 22) (news := cB ([UInt8.ofNat e0.1.length])) (Pl.Gr.ex g0 hE3) (By.src (By.ofCb (bs := [UInt8.ofNat e0.1.length]) k_N2_0 (by simp))) Tryd.underlying22 (by kernel_rfl) rfl (fun _ _ => trivial) (fun _ _ => trivial) (by omega) (by decide) (Pl.Ex.size (Pl.Ex.trans hE2 hE3)) rfl rfl rfl rfl rfl rfl (fun _ _ => trivial) ?_
  intro v3 w4 g3 hg3
  have hE4 := Pl.Ex.grown (Pl.Ex.trans hE2 hE3) hg3 (fun k hk => (Pl.Gr.lies (Pl.Gr.ex g0 hE3) k hk).1)
  replace g3 := Gy.app g3
  refine Pl.qA_go trivial rfl ?_
  refine Pl.pA_end ?_
  obtain ⟨b1, hb1⟩ : ∃ b, b = (T.four (1 + e0.1.length + e0.2.length) ++ [UInt8.ofNat e0.1.length]) := ⟨_, rfl⟩
  rw [← hb1] at g3
  have lb1 : b1.length = _ := congrArg List.length hb1
  rw [List.length_append] at lb1
  repeat refine Pl.V_seq ?_
  refine Pl.V_region (by kernel_rfl) ?_
  refine Pl.qA_go trivial rfl ?_
  refine Pl.qA_ev (.pointer (some ⟨N1, 0, none⟩)) trivial rfl rfl rfl rfl (fun X => by kernel_rfl) ?_
  refine Pl.qA_lcw (v := .string (mkS e0.1)) Tryd.underlying9 rfl (Pl.Cb.at (j := 0) (Pl.Cb.ex k_N1_0 hE4) rfl) trivial rfl rfl rfl rfl rfl ?_
  refine Pl.qA_gr (bytes := 1) (z := .int .u8 0) (tx := 9) (news := cB e0.1) g3 (srcS _ e0.1) Tryd.underlying22 (by kernel_rfl) rfl (fun _ _ => trivial) (fun _ _ => trivial) (by omega) (by decide) (Pl.Ex.size hE4) rfl rfl rfl rfl rfl rfl (fun _ _ => trivial) ?_
  intro v4 w5 g4 hg4
  have hE5 := Pl.Ex.grown hE4 hg4 (fun k hk => (Pl.Gr.lies g3 k hk).1)
  replace g4 := Gy.app g4
  refine Pl.qA_go trivial rfl ?_
  refine Pl.pA_end ?_
  obtain ⟨b2, hb2⟩ : ∃ b, b = (b1 ++ e0.1) := ⟨_, rfl⟩
  rw [← hb2] at g4
  have lb2 : b2.length = _ := congrArg List.length hb2
  rw [List.length_append] at lb2
  repeat refine Pl.V_seq ?_
  refine Pl.V_region (by kernel_rfl) ?_
  refine Pl.qA_go trivial rfl ?_
  refine Pl.qA_ev (.pointer (some ⟨N1, 1, none⟩)) trivial rfl rfl rfl rfl (fun X => by kernel_rfl) ?_
  refine Pl.qA_lcw (v := .string (mkS e0.2)) Tryd.underlying9 rfl (Pl.Cb.at (j := 1) (Pl.Cb.ex k_N1_0 hE5) rfl) trivial rfl rfl rfl rfl rfl ?_
  refine Pl.qA_gr (bytes := 1) (z := .int .u8 0) (tx := 9) (news := cB e0.2) g4 (srcS _ e0.2) Tryd.underlying22 (by kernel_rfl) rfl (fun _ _ => trivial) (fun _ _ => trivial) (by omega) (by decide) (Pl.Ex.size hE5) rfl rfl rfl rfl rfl rfl (fun _ _ => trivial) ?_
  intro v5 w6 g5 hg5
  have hE6 := Pl.Ex.grown hE5 hg5 (fun k hk => (Pl.Gr.lies g4 k hk).1)
  replace g5 := Gy.app g5
  refine Pl.qA_go trivial rfl ?_
  refine Pl.pA_end ?_
  obtain ⟨b3, hb3⟩ : ∃ b, b = (b2 ++ e0.2) := ⟨_, rfl⟩
  rw [← hb3] at g5
  have lb3 : b3.length = _ := congrArg List.length hb3
  rw [List.length_append] at lb3
  have hb : b3 = T.body e0 := by rw [hb3, hb2, hb1]; simp [T.body]
  repeat refine Pl.V_seq ?_
  refine Pl.V_region (by kernel_rfl) ?_
  refine Pl.qA_go trivial rfl ?_
  refine Pl.pA_call rfl rfl rfl rfl rfl (fun u X => Pl.enters Tryd.func17 (by kernel_rfl) rfl u X) ?_
  refine Calls.mono (sumE _ (Gy.by g5 (by omega)) (hg.ex (Pl.Ex.trans hE1 hE6))) ?_
  rintro e w7 ⟨rfl, hE7⟩
  have sz7 := Pl.Ex.size hE7
  refine ⟨_, rfl, trivial, ?_⟩
  refine Pl.pA_call rfl rfl rfl rfl rfl (fun u X => Pl.enters Tryd.func33 (by kernel_rfl) rfl u X) ?_
  refine Calls.mono (four_calls _ (T.csum b3) (T.csum_lt b3)) ?_
  rintro e w8 ⟨v9, rfl, g9, hE8⟩
  have sz8 := Pl.Ex.size hE8
  refine ⟨_, rfl, trivial, ?_⟩
  have l9 := T.four_len (T.csum b3)
  refine Pl.qA_gr (bytes := 1) (z := .int .u8 0) (tx := 22) (news := cB ((T.four (T.csum b3)))) (Pl.Gr.ex g5 (Pl.Ex.trans hE7 hE8)) (By.src (Gy.by g9 (by omega))) Tryd.underlying22 (by kernel_rfl) rfl (fun _ _ => trivial) (fun _ _ => trivial) (by omega) (by decide) (Pl.Ex.size (Pl.Ex.trans hE6 (Pl.Ex.trans hE7 hE8))) rfl rfl rfl rfl rfl rfl (fun _ _ => trivial) ?_
  intro v6 w9 g6 hg6
  have hE9 := Pl.Ex.grown (Pl.Ex.trans hE6 (Pl.Ex.trans hE7 hE8)) hg6 (fun k hk => (Pl.Gr.lies (Pl.Gr.ex g5 (Pl.Ex.trans hE7 hE8)) k hk).1)
  replace g6 := Gy.app g6
  refine Pl.qA_go trivial rfl ?_
  refine Pl.pA_end ?_
  refine Pl.post_ret rfl rfl ⟨_, rfl, ?_, (Pl.Ex.trans hE1 hE9)⟩
  have e1 : b3 ++ T.four (T.csum b3) = T.recd e0 := by rw [hb]; rfl
  rw [e1] at g6
  exact Pl.Gr.mono g6 (Pl.Ex.size hE1)
end Go.Proofs.YtmioaeaobefphaaDoor
/- A log and a record behind it. -/
namespace Go.Proofs.YtmioaeaobefphaaDoor
open Go.RowKit 
set_option linter.unusedVariables false
set_option linter.unusedSimpArgs false
set_option maxRecDepth 100000
set_option maxHeartbeats 4000000
theorem may_yes {e0 : T.Ent} (w : World) (hm : T.May e0) : Calls Tryd.prog 24 #[.agg #[.string (mkS e0.1), .string (mkS e0.2)]] w fun e w' => e = .returned (.bool true) ∧ Pl.Ex w w' := (may_calls w e0).mono fun e w' h => ⟨by rw [h.1, decide_eq_true hm], h.2⟩
theorem may_no {e0 : T.Ent} (w : World) (hm : ¬ T.May e0) : Calls Tryd.prog 24 #[.agg #[.string (mkS e0.1), .string (mkS e0.2)]] w fun e w' => e = .returned (.bool false) ∧ Pl.Ex w w' := (may_calls w e0).mono fun e w' h => ⟨by rw [h.1, decide_eq_false hm], h.2⟩
theorem rmay_yes {e0 : T.Ent} (w : World) (hm : T.May e0) : Calls Tryd.prog 23 #[.agg #[.string (mkS e0.1), .string (mkS e0.2)]] w fun e w' => e = .returned (.bool true) ∧ Pl.Ex w w' := (rmay_calls w e0).mono fun e w' h => ⟨by rw [h.1, decide_eq_true hm], h.2⟩
theorem rmay_no {e0 : T.Ent} (w : World) (hm : ¬ T.May e0) : Calls Tryd.prog 23 #[.agg #[.string (mkS e0.1), .string (mkS e0.2)]] w fun e w' => e = .returned (.bool false) ∧ Pl.Ex w w' := (rmay_calls w e0).mono fun e w' h => ⟨by rw [h.1, decide_eq_false hm], h.2⟩
theorem Gy.nilCb {w : World} {N base : Nat} (h : Pl.Cb w N 5 []) (hb : base ≤ N) : Gy w base (.slice (some ⟨N, 0, none⟩) 0 0) [] := Gy.ofCb (bs := []) h hb (by simp)
theorem grow_calls (w : World) (n : Nat) (h0 : 0 < n) (hn : n ≤ 1000000000) :
    Calls Tryd.prog 32 #[.slice none 0 0, .int .i64 ((n : Nat) : Int)] w fun e w' => ∃ g c, e = .returned (.slice (some ⟨g, 0, none⟩) 0 c) ∧ Gy w' w.heap.size (.slice (some ⟨g, 0, none⟩) 0 c) [] ∧ Pl.Ex w w' := by
  refine Pl.calls_by (n := 27) (vs := [.slice none 0 0, .int .i64 ((n : Nat) : Int)]) Tryd.func32 rfl (by kernel_rfl) (by simp) ?_
  repeat refine Pl.V_seq ?_
  refine Pl.V_region (by kernel_rfl) ?_
  refine Pl.qA_go trivial rfl ?_
  refine Pl.pA_end ?_
  repeat refine Pl.V_seq ?_
  refine Pl.V_region (by kernel_rfl) ?_
  refine Pl.qA_go trivial rfl ?_
  refine Pl.qA_b (v := .bool false) (fun X => Pl.r_lss (decide_eq_false (by omega)) X) trivial rfl rfl rfl rfl rfl rfl ?_
  refine Pl.pA_end ?_
  repeat refine Pl.V_seq ?_
  refine Pl.V_false rfl ?_
  repeat refine Pl.V_seq ?_
  refine Pl.V_skip ?_
  repeat refine Pl.V_seq ?_
  refine Pl.V_region (by kernel_rfl) ?_
  refine Pl.qA_go trivial rfl ?_
  refine Pl.qA_cp Tryd.underlying22 trivial rfl rfl rfl rfl rfl ?_
  refine Pl.qA_go trivial rfl ?_
  refine Pl.qA_ln Tryd.underlying22 trivial rfl rfl rfl rfl rfl ?_
  refine Pl.qA_b (v := .int .i64 0) (fun X => Pl.r_sub (Pl.s64 (a := 0) (b := 0) rfl rfl (by omega) (by omega)) X) trivial rfl rfl rfl rfl rfl rfl ?_
  refine Pl.qA_b (v := .int .i64 (((n - 0) : Nat) : Int)) (fun X => Pl.r_sub (Pl.s64 (a := n) (b := 0) rfl rfl (by omega) (by omega)) X) trivial rfl rfl rfl rfl rfl rfl ?_
  refine Pl.qA_go trivial rfl ?_
  refine Pl.pA_end ?_
  repeat refine Pl.V_seq ?_
  refine Pl.V_region (by kernel_rfl) ?_
  refine Pl.qA_go trivial rfl ?_
  refine Pl.qA_b (v := .bool true) (fun X => Pl.r_gtr (decide_eq_true (by omega)) X) trivial rfl rfl rfl rfl rfl rfl ?_
  refine Pl.pA_end ?_
  repeat refine Pl.V_seq ?_
  refine Pl.V_true rfl ?_
  repeat refine Pl.V_seq ?_
  refine Pl.V_region (by kernel_rfl) ?_
  refine Pl.qA_go trivial rfl ?_
  refine Pl.qA_cp Tryd.underlying22 trivial rfl rfl rfl rfl rfl ?_
  refine Pl.qA_sl (kl := .i64) (kh := .i64) (lo' := 0) (hi' := 0) (s := 1) Tryd.underlying22 (by kernel_rfl) (.inl ⟨rfl, rfl⟩) (.inr ⟨_, _, rfl, rfl, rfl⟩) (by omega) (by omega) trivial rfl rfl rfl rfl rfl ?_
  rw [cutA_zero]
  refine Pl.qA_go trivial rfl ?_
  refine qA_mk (n := n) h0 hn rfl rfl rfl rfl rfl rfl (fun _ _ => trivial) ?_
  intro g c w1 hE1 hc g1
  refine Pl.qA_go trivial rfl ?_
  refine Pl.qA_ln Tryd.underlying22 trivial rfl rfl rfl rfl rfl ?_
  refine Pl.qA_sl (kl := .i64) (kh := .i64) (lo' := 0) (hi' := 0) (s := 1) Tryd.underlying22 (by kernel_rfl) (.inl ⟨rfl, rfl⟩) (.inr ⟨_, _, rfl, rfl, rfl⟩) (by omega) (by omega) trivial rfl rfl rfl rfl rfl ?_
  rw [cutA_zero]
  refine Pl.qA_go trivial rfl ?_
  refine Pl.pA_end ?_
  repeat refine Pl.V_seq ?_
  refine Pl.V_region (by kernel_rfl) ?_
  refine Pl.qA_go trivial rfl ?_
  refine Pl.pA_end ?_
  exact Pl.post_ret rfl rfl ⟨_, _, rfl, g1, hE1⟩
theorem concat_calls (w : World) {N : Nat} {v1 v2 : Value} {lo1 lo2 : Nat} {b1 b2 : T.Byt} (k : Pl.Cb w N 22 [v1, v2]) (h1 : By w lo1 v1 b1) (h2 : By w lo2 v2 b2) (h0 : 0 < b1.length + b2.length) (hb : b1.length + b2.length ≤ 100000000) :
    Calls Tryd.prog 25 #[.slice (some ⟨N, 0, none⟩) 2 2] w fun e w' => ∃ v, e = .returned v ∧ Gy w' w.heap.size v (b1 ++ b2) ∧ Pl.Ex w w' := by
  obtain ⟨A1, c1, rfl, hn1, hm1⟩ := h1.sh
  obtain ⟨A2, c2, rfl, hn2, hm2⟩ := h2.sh
  refine Pl.calls_by (n := 36) (vs := [.slice (some ⟨N, 0, none⟩) 2 2]) Tryd.func25 rfl (by kernel_rfl) (by simp) ?_
  repeat refine Pl.V_seq ?_
  refine Pl.V_region (by kernel_rfl) ?_
  refine Pl.qA_go trivial rfl ?_
  refine Pl.pA_end ?_
  repeat refine Pl.V_seq ?_
  refine Pl.V_region (by kernel_rfl) ?_
  refine Pl.qA_go trivial rfl ?_
  refine Pl.pA_end ?_
  repeat refine Pl.V_seq ?_
  refine Pl.V_region (by kernel_rfl) ?_
  refine Pl.qA_go trivial rfl ?_
  refine Pl.qA_ln Tryd.underlying67 trivial rfl rfl rfl rfl rfl ?_
  refine Pl.qA_go trivial rfl ?_
  refine Pl.pA_end ?_
  repeat refine Pl.V_seq ?_
  refine Pl.V_block ?_
  refine Pl.V_unroll 2 ?_
  refine Pl.Unr_go ?_
  repeat refine Pl.V_seq ?_
  refine Pl.V_region (by kernel_rfl) ?_
  refine Pl.qA_b (v := .bool true) (fun X => Pl.r_lss (decide_eq_true (by omega)) X) trivial rfl rfl rfl rfl rfl rfl ?_
  refine Pl.pA_end ?_
  repeat refine Pl.V_seq ?_
  refine Pl.V_true rfl ?_
  repeat refine Pl.V_seq ?_
  refine Pl.V_skip ?_
  repeat refine Pl.V_seq ?_
  refine Pl.V_block ?_
  repeat refine Pl.V_seq ?_
  refine Pl.V_region (by kernel_rfl) ?_
  refine Pl.qA_ix (s := 1) (j := 0) Tryd.underlying67 (by kernel_rfl) rfl (by omega) trivial rfl rfl rfl rfl rfl rfl ?_
  refine Pl.qA_lcw (v := .slice A1 b1.length c1) Tryd.underlying22 rfl (by rw [Pl.add0]; exact k.at rfl) trivial rfl rfl rfl rfl rfl ?_
  refine Pl.qA_go trivial rfl ?_
  refine Pl.pA_end ?_
  repeat refine Pl.V_seq ?_
  refine Pl.V_region (by kernel_rfl) ?_
  refine Pl.qA_go trivial rfl ?_
  refine Pl.qA_ln Tryd.underlying22 trivial rfl rfl rfl rfl rfl ?_
  refine Pl.qA_b (v := .int .i64 (((0 + b1.length) : Nat) : Int)) (fun X => Pl.r_add (Pl.a64 (a := 0) (b := b1.length) rfl rfl (by omega)) X) trivial rfl rfl rfl rfl rfl rfl ?_
  refine Pl.qA_go trivial rfl ?_
  refine Pl.pA_end ?_
  repeat refine Pl.V_seq ?_
  refine Pl.V_region (by kernel_rfl) ?_
  refine Pl.qA_go trivial rfl ?_
  refine Pl.qA_b (v := .bool false) (fun X => Pl.r_lss (decide_eq_false (by omega)) X) trivial rfl rfl rfl rfl rfl rfl ?_
  refine Pl.pA_end ?_
  repeat refine Pl.V_seq ?_
  refine Pl.V_false rfl ?_
  repeat refine Pl.V_seq ?_
  refine Pl.V_skip ?_
  repeat refine Pl.V_seq ?_
  refine Pl.V_endblock ?_
  repeat refine Pl.V_seq ?_
  refine Pl.V_region (by kernel_rfl) ?_
  refine Pl.qA_b (v := .int .i64 1) (fun X => Pl.r_add (Pl.a64 (a := 0) (b := 1) rfl rfl (by omega)) X) trivial rfl rfl rfl rfl rfl rfl ?_
  refine Pl.qA_go trivial rfl ?_
  refine Pl.pA_end ?_
  refine Pl.V_next ?_
  refine Pl.Unr_go ?_
  repeat refine Pl.V_seq ?_
  refine Pl.V_region (by kernel_rfl) ?_
  refine Pl.qA_b (v := .bool true) (fun X => Pl.r_lss (decide_eq_true (by omega)) X) trivial rfl rfl rfl rfl rfl rfl ?_
  refine Pl.pA_end ?_
  repeat refine Pl.V_seq ?_
  refine Pl.V_true rfl ?_
  repeat refine Pl.V_seq ?_
  refine Pl.V_skip ?_
  repeat refine Pl.V_seq ?_
  refine Pl.V_block ?_
  repeat refine Pl.V_seq ?_
  refine Pl.V_region (by kernel_rfl) ?_
  refine Pl.qA_ix (s := 1) (j := 1) Tryd.underlying67 (by kernel_rfl) rfl (by omega) trivial rfl rfl rfl rfl rfl rfl ?_
  refine Pl.qA_lcw (v := .slice A2 b2.length c2) Tryd.underlying22 rfl (by rw [Pl.add0]; exact k.at rfl) trivial rfl rfl rfl rfl rfl ?_
  refine Pl.qA_go trivial rfl ?_
  refine Pl.pA_end ?_
  repeat refine Pl.V_seq ?_
  refine Pl.V_region (by kernel_rfl) ?_
  refine Pl.qA_go trivial rfl ?_
  refine Pl.qA_ln Tryd.underlying22 trivial rfl rfl rfl rfl rfl ?_
  refine Pl.qA_b (v := .int .i64 ((((0 + b1.length) + b2.length) : Nat) : Int)) (fun X => Pl.r_add (Pl.a64 (a := (0 + b1.length)) (b := b2.length) rfl rfl (by omega)) X) trivial rfl rfl rfl rfl rfl rfl ?_
  refine Pl.qA_go trivial rfl ?_
  refine Pl.pA_end ?_
  repeat refine Pl.V_seq ?_
  refine Pl.V_region (by kernel_rfl) ?_
  refine Pl.qA_go trivial rfl ?_
  refine Pl.qA_b (v := .bool false) (fun X => Pl.r_lss (decide_eq_false (by omega)) X) trivial rfl rfl rfl rfl rfl rfl ?_
  refine Pl.pA_end ?_
  repeat refine Pl.V_seq ?_
  refine Pl.V_false rfl ?_
  repeat refine Pl.V_seq ?_
  refine Pl.V_skip ?_
  repeat refine Pl.V_seq ?_
  refine Pl.V_endblock ?_
  repeat refine Pl.V_seq ?_
  refine Pl.V_region (by kernel_rfl) ?_
  refine Pl.qA_b (v := .int .i64 2) (fun X => Pl.r_add (Pl.a64 (a := 1) (b := 1) rfl rfl (by omega)) X) trivial rfl rfl rfl rfl rfl rfl ?_
  refine Pl.qA_go trivial rfl ?_
  refine Pl.pA_end ?_
  refine Pl.V_next ?_
  refine Pl.Unr_last ?_
  repeat refine Pl.V_seq ?_
  refine Pl.V_region (by kernel_rfl) ?_
  refine Pl.qA_b (v := .bool false) (fun X => Pl.r_lss (decide_eq_false (by omega)) X) trivial rfl rfl rfl rfl rfl rfl ?_
  refine Pl.pA_end ?_
  repeat refine Pl.V_seq ?_
  refine Pl.V_false rfl ?_
  repeat refine Pl.V_seq ?_
  refine Pl.V_exit ?_
  repeat refine Pl.V_seq ?_
  refine Pl.V_region (by kernel_rfl) ?_
  refine Pl.qA_go trivial rfl ?_
  refine Pl.pA_call rfl rfl rfl rfl rfl (fun u X => Pl.enters Tryd.func32 (by kernel_rfl) rfl u X) ?_
  refine Calls.mono (grow_calls _ (0 + b1.length + b2.length) (by omega) (by omega)) ?_
  rintro e w1 ⟨g, c, rfl, g0, hE1⟩
  have sz1 := Pl.Ex.size hE1
  refine ⟨_, rfl, trivial, ?_⟩
  refine Pl.qA_go trivial rfl ?_
  refine Pl.pA_end ?_
  have l0 : ([] : T.Byt).length = 0 := rfl
  repeat refine Pl.V_seq ?_
  refine Pl.V_region (by kernel_rfl) ?_
  refine Pl.qA_go trivial rfl ?_
  refine Pl.qA_ln Tryd.underlying67 trivial rfl rfl rfl rfl rfl ?_
  refine Pl.qA_go trivial rfl ?_
  refine Pl.pA_end ?_
  repeat refine Pl.V_seq ?_
  refine Pl.V_block ?_
  refine Pl.V_unroll 2 ?_
  refine Pl.Unr_go ?_
  repeat refine Pl.V_seq ?_
  refine Pl.V_region (by kernel_rfl) ?_
  refine Pl.qA_b (v := .bool true) (fun X => Pl.r_lss (decide_eq_true (by omega)) X) trivial rfl rfl rfl rfl rfl rfl ?_
  refine Pl.pA_end ?_
  repeat refine Pl.V_seq ?_
  refine Pl.V_true rfl ?_
  repeat refine Pl.V_seq ?_
  refine Pl.V_skip ?_
  repeat refine Pl.V_seq ?_
  refine Pl.V_block ?_
  repeat refine Pl.V_seq ?_
  refine Pl.V_region (by kernel_rfl) ?_
  refine Pl.qA_ix (s := 1) (j := 0) Tryd.underlying67 (by kernel_rfl) rfl (by omega) trivial rfl rfl rfl rfl rfl rfl ?_
  refine Pl.qA_lcw (v := .slice A1 b1.length c1) Tryd.underlying22 rfl (by rw [Pl.add0]; exact (k.ex hE1).at rfl) trivial rfl rfl rfl rfl rfl ?_
  refine Pl.qA_go trivial rfl ?_
  refine Pl.pA_end ?_
  repeat refine Pl.V_seq ?_
  refine Pl.V_region (by kernel_rfl) ?_
  refine Pl.qA_go trivial rfl ?_
  refine Pl.qA_gr (bytes := 1) (z := .int .u8 0) (tx := 22) (news := cB b1) g0 (By.src (By.ex h1 hE1)) Tryd.underlying22 (by kernel_rfl) rfl (fun _ _ => trivial) (fun _ _ => trivial) (by omega) (by decide) (Pl.Ex.size hE1) rfl rfl rfl rfl rfl rfl (fun _ _ => trivial) ?_
  intro v1 w2 g1 hg1
  have hE2 := Pl.Ex.grown hE1 hg1 (fun k hk => (Pl.Gr.lies g0 k hk).1)
  replace g1 := Gy.app g1
  refine Pl.qA_go trivial rfl ?_
  refine Pl.pA_end ?_
  obtain ⟨d1, hd1⟩ : ∃ b, b = (([] : T.Byt) ++ b1) := ⟨_, rfl⟩
  rw [← hd1] at g1
  have ld1 : d1.length = _ := congrArg List.length hd1
  rw [List.length_append] at ld1
  repeat refine Pl.V_seq ?_
  refine Pl.V_endblock ?_
  repeat refine Pl.V_seq ?_
  refine Pl.V_region (by kernel_rfl) ?_
  refine Pl.qA_b (v := .int .i64 1) (fun X => Pl.r_add (Pl.a64 (a := 0) (b := 1) rfl rfl (by omega)) X) trivial rfl rfl rfl rfl rfl rfl ?_
  refine Pl.qA_go trivial rfl ?_
  refine Pl.pA_end ?_
  refine Pl.V_next ?_
  refine Pl.Unr_go ?_
  repeat refine Pl.V_seq ?_
  refine Pl.V_region (by kernel_rfl) ?_
  refine Pl.qA_b (v := .bool true) (fun X => Pl.r_lss (decide_eq_true (by omega)) X) trivial rfl rfl rfl rfl rfl rfl ?_
  refine Pl.pA_end ?_
  repeat refine Pl.V_seq ?_
  refine Pl.V_true rfl ?_
  repeat refine Pl.V_seq ?_
  refine Pl.V_skip ?_
  repeat refine Pl.V_seq ?_
  refine Pl.V_block ?_
  repeat refine Pl.V_seq ?_
  refine Pl.V_region (by kernel_rfl) ?_
  refine Pl.qA_ix (s := 1) (j := 1) Tryd.underlying67 (by kernel_rfl) rfl (by omega) trivial rfl rfl rfl rfl rfl rfl ?_
  refine Pl.qA_lcw (v := .slice A2 b2.length c2) Tryd.underlying22 rfl (by rw [Pl.add0]; exact (k.ex hE2).at rfl) trivial rfl rfl rfl rfl rfl ?_
  refine Pl.qA_go trivial rfl ?_
  refine Pl.pA_end ?_
  repeat refine Pl.V_seq ?_
  refine Pl.V_region (by kernel_rfl) ?_
  refine Pl.qA_go trivial rfl ?_
  refine Pl.qA_gr (bytes := 1) (z := .int .u8 0) (tx := 22) (news := cB b2) g1 (By.src (By.ex h2 hE2)) Tryd.underlying22 (by kernel_rfl) rfl (fun _ _ => trivial) (fun _ _ => trivial) (by omega) (by decide) (Pl.Ex.size hE2) rfl rfl rfl rfl rfl rfl (fun _ _ => trivial) ?_
  intro v2 w3 g2 hg2
  have hE3 := Pl.Ex.grown hE2 hg2 (fun k hk => (Pl.Gr.lies g1 k hk).1)
  replace g2 := Gy.app g2
  refine Pl.qA_go trivial rfl ?_
  refine Pl.pA_end ?_
  obtain ⟨d2, hd2⟩ : ∃ b, b = (d1 ++ b2) := ⟨_, rfl⟩
  rw [← hd2] at g2
  have ld2 : d2.length = _ := congrArg List.length hd2
  rw [List.length_append] at ld2
  repeat refine Pl.V_seq ?_
  refine Pl.V_endblock ?_
  repeat refine Pl.V_seq ?_
  refine Pl.V_region (by kernel_rfl) ?_
  refine Pl.qA_b (v := .int .i64 2) (fun X => Pl.r_add (Pl.a64 (a := 1) (b := 1) rfl rfl (by omega)) X) trivial rfl rfl rfl rfl rfl rfl ?_
  refine Pl.qA_go trivial rfl ?_
  refine Pl.pA_end ?_
  refine Pl.V_next ?_
  refine Pl.Unr_last ?_
  repeat refine Pl.V_seq ?_
  refine Pl.V_region (by kernel_rfl) ?_
  refine Pl.qA_b (v := .bool false) (fun X => Pl.r_lss (decide_eq_false (by omega)) X) trivial rfl rfl rfl rfl rfl rfl ?_
  refine Pl.pA_end ?_
  repeat refine Pl.V_seq ?_
  refine Pl.V_false rfl ?_
  repeat refine Pl.V_seq ?_
  refine Pl.V_exit ?_
  repeat refine Pl.V_seq ?_
  refine Pl.V_region (by kernel_rfl) ?_
  refine Pl.qA_go trivial rfl ?_
  refine Pl.pA_end ?_
  have e1 : d2 = b1 ++ b2 := by rw [hd2, hd1]; rfl
  rw [e1] at g2
  exact Pl.post_ret rfl rfl ⟨_, rfl, g2, hE3⟩
theorem clone_calls (w : World) {v : Value} {lo : Nat} {bs : T.Byt} (h : By w lo v bs) (hb : bs.length ≤ 100000000) :
    Calls Tryd.prog 31 #[v] w fun e w' => ∃ v', e = .returned v' ∧ Gy w' w.heap.size v' bs ∧ Pl.Ex w w' := by
  obtain ⟨A, c, rfl, hn, hm⟩ := h.sh
  cases A
  · have h0 : bs = [] := by
      rcases Nat.eq_zero_or_pos bs.length with h1 | h1
      · exact List.eq_nil_of_length_eq_zero h1
      · obtain ⟨ad, e, _⟩ := h.at h1; cases e
    subst h0
    refine Pl.calls_by (n := 8) (vs := [.slice none ([] : T.Byt).length c]) Tryd.func31 rfl (by kernel_rfl) (by simp) ?_
    repeat refine Pl.V_seq ?_
    refine Pl.V_region (by kernel_rfl) ?_
    refine Pl.qA_go trivial rfl ?_
    refine Pl.pA_end ?_
    repeat refine Pl.V_seq ?_
    refine Pl.V_region (by kernel_rfl) ?_
    refine Pl.qA_go trivial rfl ?_
    refine Pl.qA_b (v := .bool true) (fun X => (fun X => by kernel_rfl) X) trivial rfl rfl rfl rfl rfl rfl ?_
    refine Pl.pA_end ?_
    repeat refine Pl.V_seq ?_
    refine Pl.V_true rfl ?_
    repeat refine Pl.V_seq ?_
    refine Pl.V_region (by kernel_rfl) ?_
    refine Pl.qA_go trivial rfl ?_
    refine Pl.pA_end ?_
    exact Pl.post_ret rfl rfl ⟨_, rfl, Pl.Gr.nil, Pl.Ex.refl _⟩
  · rename_i ad
    refine Pl.calls_by (n := 8) (vs := [.slice (some ad) bs.length c]) Tryd.func31 rfl (by kernel_rfl) (by simp) ?_
    repeat refine Pl.V_seq ?_
    refine Pl.V_region (by kernel_rfl) ?_
    refine Pl.qA_go trivial rfl ?_
    refine Pl.pA_end ?_
    repeat refine Pl.V_seq ?_
    refine Pl.V_region (by kernel_rfl) ?_
    refine Pl.qA_go trivial rfl ?_
    refine Pl.qA_b (v := .bool false) (fun X => (fun X => by kernel_rfl) X) trivial rfl rfl rfl rfl rfl rfl ?_
    refine Pl.pA_end ?_
    repeat refine Pl.V_seq ?_
    refine Pl.V_false rfl ?_
    repeat refine Pl.V_seq ?_
    refine Pl.V_skip ?_
    repeat refine Pl.V_seq ?_
    refine Pl.V_region (by kernel_rfl) ?_
    refine Pl.qA_bs (e := 5) (n := 0) [] rfl rfl rfl rfl (by kernel_rfl) (fun Y hY => trivial) ?_
    intro N1 w1 hE1 hN_N1 k_N1_0
    have z_N1 := Pl.Cb.lt k_N1_0
    have sz1 := Pl.Ex.size hE1
    refine Pl.qA_go trivial rfl ?_
    have g0 := Gy.nilCb (base := w.heap.size) k_N1_0 (Nat.le_of_eq hN_N1.symm)
    have l0 : ([] : T.Byt).length = 0 := rfl
    refine Pl.qA_gr (bytes := 1) (z := .int .u8 0) (tx := 22) (news := cB bs) g0 (By.src (By.ex h hE1)) Tryd.underlying22 (by kernel_rfl) rfl (fun _ _ => trivial) (fun _ _ => trivial) (by omega) (by decide) (Pl.Ex.size hE1) rfl rfl rfl rfl rfl rfl (fun _ _ => trivial) ?_
    intro v2 w2 g2 hg2
    have hE2 := Pl.Ex.grown hE1 hg2 (fun k hk => (Pl.Gr.lies g0 k hk).1)
    replace g2 := Gy.app g2
    refine Pl.qA_go trivial rfl ?_
    refine Pl.pA_end ?_
    exact Pl.post_ret rfl rfl ⟨_, rfl, g2, hE2⟩
theorem append_yes (w : World) {v : Value} {lo : Nat} {bs : T.Byt} (e0 : T.Ent) (h : By w lo v bs) (hm : T.May e0) (hg : Gl w) (hb : bs.length ≤ 10000000) :
    Calls Tryd.prog 12 #[v, .agg #[.string (mkS e0.1), .string (mkS e0.2)]] w fun e w' => ∃ v', e = .returned (.tuple #[v', .int .i64 0]) ∧ Gy w' w.heap.size v' (bs ++ T.recd e0) ∧ Pl.Ex w w' := by
  obtain ⟨A, c, rfl, hn, hmc⟩ := h.sh
  refine Pl.calls_by (n := 14) (vs := [.slice A bs.length c, .agg #[.string (mkS e0.1), .string (mkS e0.2)]]) Tryd.func12 rfl (by kernel_rfl) (by simp) ?_
  repeat refine Pl.V_seq ?_
  refine Pl.V_region (by kernel_rfl) ?_
  refine Pl.qA_bx (cs := [.string (mkS e0.1), .string (mkS e0.2)]) rfl rfl rfl rfl rfl rfl (fun Y hY => trivial) ?_
  intro N1 w1 hE1 hN_N1 k_N1_0
  have z_N1 := Pl.Cb.lt k_N1_0
  have sz1 := Pl.Ex.size hE1
  refine Pl.qA_go trivial rfl ?_
  refine Pl.pA_end ?_
  repeat refine Pl.V_seq ?_
  refine Pl.V_region (by kernel_rfl) ?_
  refine Pl.qA_lrw (part := [.string (mkS e0.1), .string (mkS e0.2)]) k_N1_0 rfl Tryd.underlying24 rfl (by kernel_rfl) trivial rfl rfl rfl rfl rfl ?_
  refine Pl.pA_call rfl rfl rfl rfl rfl (fun u X => Pl.enters Tryd.func24 (by kernel_rfl) rfl u X) ?_
  refine Calls.mono (may_yes _ hm) ?_
  rintro e w2 ⟨rfl, hE2⟩
  have sz2 := Pl.Ex.size hE2
  refine ⟨_, rfl, trivial, ?_⟩
  refine Pl.qA_un (v := .bool false) trivial rfl rfl rfl rfl rfl (fun X => rfl) ?_
  refine Pl.pA_end ?_
  repeat refine Pl.V_seq ?_
  refine Pl.V_false rfl ?_
  repeat refine Pl.V_seq ?_
  refine Pl.V_skip ?_
  have hrl := T.recd_len e0
  obtain ⟨m1, m2, m3⟩ := id hm
  repeat refine Pl.V_seq ?_
  refine Pl.V_region (by kernel_rfl) ?_
  refine Pl.qA_go trivial rfl ?_
  refine Pl.qA_lrw (part := [.string (mkS e0.1), .string (mkS e0.2)]) (Pl.Cb.ex k_N1_0 hE2) rfl Tryd.underlying24 rfl (by kernel_rfl) trivial rfl rfl rfl rfl rfl ?_
  refine Pl.pA_call rfl rfl rfl rfl rfl (fun u X => Pl.enters Tryd.func26 (by kernel_rfl) rfl u X) ?_
  refine Calls.mono (record_calls _ e0 hm (hg.ex (Pl.Ex.trans hE1 hE2))) ?_
  rintro e w3 ⟨v2, rfl, g2, hE3⟩
  obtain ⟨A2, q2, rfl, -⟩ := Pl.Gr.shp g2
  have sz3 := Pl.Ex.size hE3
  refine ⟨_, rfl, trivial, ?_⟩
  refine Pl.qA_bs (e := 22) (n := 2) [.slice A bs.length c, .slice A2 (T.recd e0).length q2] rfl rfl rfl rfl (by kernel_rfl) (fun Y hY => trivial) ?_
  intro N2 w4 hE4 hN_N2 k_N2_0
  have z_N2 := Pl.Cb.lt k_N2_0
  have sz4 := Pl.Ex.size hE4
  refine Pl.pA_call rfl rfl rfl rfl rfl (fun u X => Pl.enters Tryd.func25 (by kernel_rfl) rfl u X) ?_
  refine Calls.mono (concat_calls _ k_N2_0 (By.ex h (Pl.Ex.trans hE1 (Pl.Ex.trans hE2 (Pl.Ex.trans hE3 hE4)))) (By.ex (Gy.by g2 (by omega)) hE4) (by omega) (by omega)) ?_
  rintro e w5 ⟨v3, rfl, g3, hE5⟩
  have sz5 := Pl.Ex.size hE5
  refine ⟨_, rfl, trivial, ?_⟩
  refine Pl.qA_go trivial rfl ?_
  refine Pl.pA_end ?_
  exact Pl.post_ret2 rfl rfl rfl ⟨_, rfl, Pl.Gr.mono g3 (Pl.Ex.size (Pl.Ex.trans hE1 (Pl.Ex.trans hE2 (Pl.Ex.trans hE3 hE4)))), (Pl.Ex.trans hE1 (Pl.Ex.trans hE2 (Pl.Ex.trans hE3 (Pl.Ex.trans hE4 hE5))))⟩
theorem append_no (w : World) {v : Value} {lo : Nat} {bs : T.Byt} (e0 : T.Ent) (h : By w lo v bs) (hm : ¬ T.May e0) :
    Calls Tryd.prog 12 #[v, .agg #[.string (mkS e0.1), .string (mkS e0.2)]] w fun e w' => e = .returned (.tuple #[.slice none 0 0, .int .i64 1]) ∧ Pl.Ex w w' := by
  obtain ⟨A, c, rfl, hn, hmc⟩ := h.sh
  refine Pl.calls_by (n := 14) (vs := [.slice A bs.length c, .agg #[.string (mkS e0.1), .string (mkS e0.2)]]) Tryd.func12 rfl (by kernel_rfl) (by simp) ?_
  repeat refine Pl.V_seq ?_
  refine Pl.V_region (by kernel_rfl) ?_
  refine Pl.qA_bx (cs := [.string (mkS e0.1), .string (mkS e0.2)]) rfl rfl rfl rfl rfl rfl (fun Y hY => trivial) ?_
  intro N1 w1 hE1 hN_N1 k_N1_0
  have z_N1 := Pl.Cb.lt k_N1_0
  have sz1 := Pl.Ex.size hE1
  refine Pl.qA_go trivial rfl ?_
  refine Pl.pA_end ?_
  repeat refine Pl.V_seq ?_
  refine Pl.V_region (by kernel_rfl) ?_
  refine Pl.qA_lrw (part := [.string (mkS e0.1), .string (mkS e0.2)]) k_N1_0 rfl Tryd.underlying24 rfl (by kernel_rfl) trivial rfl rfl rfl rfl rfl ?_
  refine Pl.pA_call rfl rfl rfl rfl rfl (fun u X => Pl.enters Tryd.func24 (by kernel_rfl) rfl u X) ?_
  refine Calls.mono (may_no _ hm) ?_
  rintro e w2 ⟨rfl, hE2⟩
  have sz2 := Pl.Ex.size hE2
  refine ⟨_, rfl, trivial, ?_⟩
  refine Pl.qA_un (v := .bool true) trivial rfl rfl rfl rfl rfl (fun X => rfl) ?_
  refine Pl.pA_end ?_
  repeat refine Pl.V_seq ?_
  refine Pl.V_true rfl ?_
  repeat refine Pl.V_seq ?_
  refine Pl.V_region (by kernel_rfl) ?_
  refine Pl.qA_go trivial rfl ?_
  refine Pl.pA_end ?_
  exact Pl.post_ret2 rfl rfl rfl ⟨rfl, (Pl.Ex.trans hE1 hE2)⟩
end Go.Proofs.YtmioaeaobefphaaDoor
