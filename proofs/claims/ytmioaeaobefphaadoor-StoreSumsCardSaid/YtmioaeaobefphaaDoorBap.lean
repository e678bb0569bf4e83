/- Entries that are made. -/
import Derived.Test.YtmioaeaobefphaaDoorBao

namespace Go.Proofs.YtmioaeaobefphaaDoor
open Go.RowKit 
set_option linter.unusedVariables false
set_option linter.unusedSimpArgs false
set_option maxRecDepth 100000
set_option maxHeartbeats 4000000
section
variable {P : Program} {L : List Oper} {S : World → Prop} {K : List (Nat × Value) → World → Prop} {kk : Bool} {i m d : Nat} {o : Oper} {x y : Operand} {r : List (Bool × Nat × Nat)} {l : List (Nat × Value)} {w : World}
theorem Pl.qA_mi {t : Array TypeId} {a b : Nat} {za zb : Int} (hS : S w) (ho : Pl.nth L i = some o) (hop : o.op = .call { callee := .builtin .min, args := #[x, y], argTypes := t }) (hd : o.dst = some d) (hg : Pl.gd L l o.guard = some true) (hx : Pl.opv l x = some (.int .i64 za)) (hy : Pl.opv l y = some (.int .i64 zb)) (hza : za = (a : Int)) (hzb : zb = (b : Int))
    (h : Pl.wpA P L S K r ((d, .int .i64 ((min a b : Nat) : Int)) :: l) w) : Pl.wpA P L S K ((kk, i, m) :: r) l w :=
  Pl.pA_pure hS ho hd hg (fun ρ hρ X _ => by
    subst hza hzb
    unfold execOp; rw [hop]
    refine Pl.run_val (Builtin.min_ _ _ (#[x, y].map ρ)) X ?_
    rw [show #[x, y].map ρ = #[.int .i64 (a : Int), .int .i64 (b : Int)] from by simp [hρ.opv hx, hρ.opv hy]]
    have e : ((min a b : Nat) : Int) = if (b : Int) < (a : Int) then (b : Int) else (a : Int) := by split <;> omega
    rw [e]
    exact run_min_int2 _ _ _ _ _ _ _) h
theorem mkS_head (bs : T.Byt) (k : Nat) (h : k ≤ bs.length) : (mkS bs).extract 0 k = mkS (bs.take k) := by
  apply ByteArray.ext
  simp [mkS, ByteArray.data_extract]
theorem Pl.qA_sh {t : TypeId} {bs : T.Byt} {k : Nat} {kd : IntKind} {z : Int} (hu : P.underlying t = some .string) (hk : k ≤ bs.length) (hS : S w) (ho : Pl.nth L i = some o) (hop : o.op = .slice t x none (some y) none) (hd : o.dst = some d) (hg : Pl.gd L l o.guard = some true) (hx : Pl.opv l x = some (.string (mkS bs))) (hy : Pl.opv l y = some (.int kd z)) (hz : z = (k : Int))
    (h : Pl.wpA P L S K r ((d, .string (mkS (bs.take k))) :: l) w) : Pl.wpA P L S K ((kk, i, m) :: r) l w :=
  Pl.pA_pure hS ho hd hg (fun ρ hρ X _ => by
    subst hz
    unfold execOp; rw [hop]
    refine Pl.run_val _ X ?_
    rw [hρ.opv hx]
    have e := hρ.opv hy
    have := run_slice_string_h (P := P) X t (mkS bs) hu kd (k : Int) (by omega) (by rw [mkS_size]; omega)
    rw [Int.toNat_natCast, mkS_head bs k hk] at this
    rw [run_sliceAt_string X t _ _ _ _ hu]
    simpa [e] using this) h
end
/-- What is made of an entry. -/
def T.fitN (n : T.Byt) : T.Byt := n.take (min n.length 20)
def T.fit (x : T.Ent) : T.Ent := (T.fitN (if x.1.length = 0 then [120] else x.1), x.2.take (min x.2.length 200))
theorem T.fit_may (x : T.Ent) : T.May (T.fit x) := by
  unfold T.fit T.fitN
  refine ⟨?_, ?_, ?_⟩
  · split
    · show 1 ≤ (List.take (min ([120] : T.Byt).length 20) [120]).length
      decide
    · simp only [List.length_take]; omega
  · simp only [List.length_take]; omega
  · simp only [List.length_take]; omega
theorem T.fit_one {x : T.Ent} (h : x.1.length = 0) : T.fit x = (T.fitN [120], x.2.take (min x.2.length 200)) := by unfold T.fit; rw [if_pos h]
theorem T.fit_two {x : T.Ent} (h : x.1.length ≠ 0) : T.fit x = (T.fitN x.1, x.2.take (min x.2.length 200)) := by unfold T.fit; rw [if_neg h]
def T.made (l : List T.Ent) (most : Nat) : List T.Ent := (l.take most).map T.fit
theorem T.made_snoc (l : List T.Ent) {q : Nat} (h : q < l.length) : (l.take (q + 1)).map T.fit = (l.take q).map T.fit ++ [T.fit l[q]] := by
  rw [List.take_add_one, List.getElem?_eq_getElem h, List.map_append]; rfl
theorem made_calls (w : World) {v : Value} {lo : Nat} {l : List T.Ent} (hl : Es w lo v l) (most : Nat) (hm : most ≤ 1000) :
    Calls Tryd.prog 21 #[v, .int .i64 ((most : Nat) : Int)] w fun e w' => ∃ v', e = .returned v' ∧ Es w' w.heap.size v' (T.made l most) ∧ Pl.Ex w w' := by
  obtain ⟨A, c, rfl, hn, hc⟩ := hl.sh
  refine Pl.calls_by (n := 50) (vs := [.slice A l.length c, .int .i64 ((most : Nat) : Int)]) Tryd.func21 rfl (by kernel_rfl) (by simp) ?_
  repeat refine Pl.V_seq ?_
  refine Pl.V_region (by kernel_rfl) ?_
  refine Pl.qA_go trivial rfl ?_
  refine Pl.pA_end ?_
  repeat refine Pl.V_seq ?_
  refine Pl.V_region (by kernel_rfl) ?_
  refine Pl.qA_bs (e := 24) (n := 0) [] rfl rfl rfl rfl (by kernel_rfl) (fun Y hY => trivial) ?_
  intro N1 w1 hE1 hN_N1 k_N1_0
  have z_N1 := Pl.Cb.lt k_N1_0
  have sz1 := Pl.Ex.size hE1
  refine Pl.qA_go trivial rfl ?_
  refine Pl.pA_end ?_
  repeat refine Pl.V_seq ?_
  refine Pl.V_region (by kernel_rfl) ?_
  refine Pl.qA_go trivial rfl ?_
  refine Pl.pA_end ?_
  repeat refine Pl.V_seq ?_
  refine Pl.V_block ?_
  repeat refine Pl.V_seq ?_
  refine Pl.V_sub [(0, .slice A l.length c), (1, .int .i64 ((most : Nat) : Int)), (5, .slice (some ⟨N1, 0, none⟩) 0 0), (6, .int .i64 0)] (Pl.subl_cons rfl (Pl.subl_cons rfl (Pl.subl_cons rfl (Pl.subl_cons rfl Pl.subl_nil)))) ?_
  have hE0 := hE1
  have hG0 : Ge w1 w.heap.size (.slice (some ⟨N1, 0, none⟩) 0 0) [] := Pl.Gr.ofCb k_N1_0 (by omega) rfl (by unfold maxLen; omega) (fun _ _ => trivial)
  refine Pl.V_loop (fun k l' w' => ∃ q ls Ar cr, q + k = l.length ∧ q ≤ most ∧ ls.length = q ∧ ls = (l.take q).map T.fit ∧ Ge w' w.heap.size (.slice Ar (List.length ls) cr) ls ∧ Pl.Ex w w' ∧ l' = [(0, .slice A l.length c), (1, .int .i64 ((most : Nat) : Int)), (5, .slice Ar ls.length cr), (6, .int .i64 ((q : Nat) : Int))]) l.length ⟨0, [], _, _, by omega, Nat.zero_le _, rfl, rfl, hG0, hE0, rfl⟩ ?_
  clear hE0 hG0
  rintro k _ Z ⟨q, ls, Ar, cr, hq, hqm, hlen, hls, hG, hX, rfl⟩
  have hwX := hX.size
  by_cases hlt : q < l.length
  · by_cases hlm : q < most
    · repeat refine Pl.V_seq ?_
      refine Pl.V_region (by kernel_rfl) ?_
      refine Pl.qA_go trivial rfl ?_
      refine Pl.qA_ln Tryd.underlying29 trivial rfl rfl rfl rfl rfl ?_
      refine Pl.qA_b (v := .bool true) (fun X => Pl.r_lss (decide_eq_true (by omega)) X) trivial rfl rfl rfl rfl rfl rfl ?_
      refine Pl.qA_go trivial rfl ?_
      refine Pl.qA_b (v := .bool true) (fun X => Pl.r_lss (decide_eq_true (by omega)) X) trivial rfl rfl rfl rfl rfl rfl ?_
      refine Pl.qA_go trivial rfl ?_
      refine Pl.pA_end ?_
      repeat refine Pl.V_seq ?_
      refine Pl.V_true rfl ?_
      repeat refine Pl.V_seq ?_
      refine Pl.V_skip ?_
      repeat refine Pl.V_seq ?_
      refine Pl.V_block ?_
      obtain ⟨ad, rfl, hla⟩ := (hl.ex hX).load hlt
      repeat refine Pl.V_seq ?_
      refine Pl.V_region (by kernel_rfl) ?_
      refine Pl.qA_go trivial rfl ?_
      refine Pl.qA_ix (s := 2) (j := q) Tryd.underlying29 (by kernel_rfl) rfl (by omega) trivial rfl rfl rfl rfl rfl rfl ?_
      refine Pl.qA_loadw trivial rfl rfl rfl rfl rfl (hla _ (Pl.Ex.refl _)) ?_
      refine Pl.qA_al (z := .agg #[.string ⟨#[]⟩, .string ⟨#[]⟩]) (by kernel_rfl) rfl rfl rfl rfl (fun Y hY => trivial) ?_
      intro N2 w1 hE1 hN_N2 k_N2_0
      have z_N2 := Pl.Cb.lt k_N2_0
      have sz1 := Pl.Ex.size hE1
      replace k_N2_0 : Pl.Cb w1 N2 24 [.string ⟨#[]⟩, .string ⟨#[]⟩] := k_N2_0
      refine Pl.qA_sw (new := [.string (mkS l[q].1), .string (mkS l[q].2)]) k_N2_0 (by kernel_rfl) rfl (by simp [Value.oneCell']) rfl rfl rfl rfl rfl rfl (fun Y hY => trivial) ?_
      intro w2 hX2 k_N2_1
      have hE2 := Pl.Ex.xs hE1 hX2 (by omega)
      have sz2 := Pl.Xs.size hX2
      refine Pl.pA_end ?_
      have hsn := T.made_snoc l hlt
      by_cases hz : l[q].1.length = 0
      · repeat refine Pl.V_seq ?_
        refine Pl.V_region (by kernel_rfl) ?_
        refine Pl.qA_ev (.pointer (some ⟨N2, 0, none⟩)) trivial rfl rfl rfl rfl (fun X => by kernel_rfl) ?_
        refine Pl.qA_lcw (v := .string (mkS l[q].1)) Tryd.underlying9 rfl (Pl.Cb.at (j := 0) k_N2_1 rfl) trivial rfl rfl rfl rfl rfl ?_
        refine Pl.qA_lt Tryd.underlying9 trivial rfl rfl rfl rfl rfl ?_
        refine Pl.qA_b (v := .bool true) (fun X => Pl.r_eql (Pl.e_t (a := ((l[q].1.length : Nat) : Int)) (b := 0) (by omega)) X) trivial rfl rfl rfl rfl rfl rfl ?_
        refine Pl.pA_end ?_
        repeat refine Pl.V_seq ?_
        refine Pl.V_true rfl ?_
        repeat refine Pl.V_seq ?_
        refine Pl.V_region (by kernel_rfl) ?_
        refine Pl.qA_ev (.pointer (some ⟨N2, 0, none⟩)) trivial rfl rfl rfl rfl (fun X => by kernel_rfl) ?_
        refine Pl.qA_s1 (j := 0) (u := .string ⟨#[120]⟩) k_N2_1 (by simp) (by kernel_rfl) rfl rfl rfl rfl rfl rfl rfl rfl (fun Y hY => trivial) ?_
        intro w3 hX3 k_N2_2
        have hE3 := Pl.Ex.xs hE2 hX3 (by omega)
        replace k_N2_2 : Pl.Cb w3 N2 24 [.string ⟨#[120]⟩, .string (mkS l[q].2)] := k_N2_2
        have sz3 := Pl.Xs.size hX3
        refine Pl.pA_end ?_
        repeat refine Pl.V_seq ?_
        refine Pl.V_region (by kernel_rfl) ?_
        refine Pl.qA_ev (.pointer (some ⟨N2, 0, none⟩)) trivial rfl rfl rfl rfl (fun X => by kernel_rfl) ?_
        refine Pl.qA_lcw (v := .string (mkS [120])) Tryd.underlying9 rfl (Pl.Cb.at (j := 0) k_N2_2 rfl) trivial rfl rfl rfl rfl rfl ?_
        refine Pl.qA_ev (.pointer (some ⟨N2, 0, none⟩)) trivial rfl rfl rfl rfl (fun X => by kernel_rfl) ?_
        refine Pl.qA_lcw (v := .string (mkS [120])) Tryd.underlying9 rfl (Pl.Cb.at (j := 0) k_N2_2 rfl) trivial rfl rfl rfl rfl rfl ?_
        refine Pl.qA_lt Tryd.underlying9 trivial rfl rfl rfl rfl rfl ?_
        refine Pl.qA_mi (a := ([120] : T.Byt).length) (b := 20) trivial rfl rfl rfl rfl rfl rfl rfl rfl ?_
        refine Pl.qA_sh (bs := ([120] : T.Byt)) (k := min ([120] : T.Byt).length 20) Tryd.underlying9 (Nat.min_le_left _ _) trivial rfl rfl rfl rfl rfl rfl rfl ?_
        refine Pl.qA_ev (.pointer (some ⟨N2, 0, none⟩)) trivial rfl rfl rfl rfl (fun X => by kernel_rfl) ?_
        refine Pl.qA_s1 (j := 0) (u := .string (mkS (([120] : T.Byt).take (min ([120] : T.Byt).length 20)))) k_N2_2 (by simp) (by kernel_rfl) rfl rfl rfl rfl rfl rfl rfl rfl (fun Y hY => trivial) ?_
        intro w4 hX4 k_N2_3
        have hE4 := Pl.Ex.xs hE3 hX4 (by omega)
        replace k_N2_3 : Pl.Cb w4 N2 24 [.string (mkS (([120] : T.Byt).take (min ([120] : T.Byt).length 20))), .string (mkS l[q].2)] := k_N2_3
        have sz4 := Pl.Xs.size hX4
        refine Pl.pA_end ?_
        repeat refine Pl.V_seq ?_
        refine Pl.V_region (by kernel_rfl) ?_
        refine Pl.qA_ev (.pointer (some ⟨N2, 1, none⟩)) trivial rfl rfl rfl rfl (fun X => by kernel_rfl) ?_
        refine Pl.qA_lcw (v := .string (mkS l[q].2)) Tryd.underlying9 rfl (Pl.Cb.at (j := 1) k_N2_3 rfl) trivial rfl rfl rfl rfl rfl ?_
        refine Pl.qA_ev (.pointer (some ⟨N2, 1, none⟩)) trivial rfl rfl rfl rfl (fun X => by kernel_rfl) ?_
        refine Pl.qA_lcw (v := .string (mkS l[q].2)) Tryd.underlying9 rfl (Pl.Cb.at (j := 1) k_N2_3 rfl) trivial rfl rfl rfl rfl rfl ?_
        refine Pl.qA_lt Tryd.underlying9 trivial rfl rfl rfl rfl rfl ?_
        refine Pl.qA_mi (a := l[q].2.length) (b := 200) trivial rfl rfl rfl rfl rfl rfl rfl rfl ?_
        refine Pl.qA_sh (bs := l[q].2) (k := min l[q].2.length 200) Tryd.underlying9 (Nat.min_le_left _ _) trivial rfl rfl rfl rfl rfl rfl rfl ?_
        refine Pl.qA_ev (.pointer (some ⟨N2, 1, none⟩)) trivial rfl rfl rfl rfl (fun X => by kernel_rfl) ?_
        refine Pl.qA_s1 (j := 1) (u := .string (mkS (l[q].2.take (min l[q].2.length 200)))) k_N2_3 (by simp) (by kernel_rfl) rfl rfl rfl rfl rfl rfl rfl rfl (fun Y hY => trivial) ?_
        intro w5 hX5 k_N2_4
        have hE5 := Pl.Ex.xs hE4 hX5 (by omega)
        replace k_N2_4 : Pl.Cb w5 N2 24 [.string (mkS (([120] : T.Byt).take (min ([120] : T.Byt).length 20))), .string (mkS (l[q].2.take (min l[q].2.length 200)))] := k_N2_4
        have sz5 := Pl.Xs.size hX5
        refine Pl.pA_end ?_
        repeat refine Pl.V_seq ?_
        refine Pl.V_region (by kernel_rfl) ?_
        refine Pl.qA_go trivial rfl ?_
        refine Pl.qA_lrw (part := [.string (mkS (([120] : T.Byt).take (min ([120] : T.Byt).length 20))), .string (mkS (l[q].2.take (min l[q].2.length 200)))]) k_N2_4 rfl Tryd.underlying24 rfl (by kernel_rfl) trivial rfl rfl rfl rfl rfl ?_
        refine Pl.qA_bs (e := 24) (n := 1) [.string (mkS (([120] : T.Byt).take (min ([120] : T.Byt).length 20))), .string (mkS (l[q].2.take (min l[q].2.length 200)))] rfl rfl rfl rfl (by kernel_rfl) (fun Y hY => trivial) ?_
        intro N3 w6 hE6 hN_N3 k_N3_0
        have z_N3 := Pl.Cb.lt k_N3_0
        have sz6 := Pl.Ex.size hE6
        have hsrc : Src Tryd.prog 2 29 (.slice (some ⟨N3, 0, none⟩) 1 1) 1 [.string (mkS (([120] : T.Byt).take (min ([120] : T.Byt).length 20))), .string (mkS (l[q].2.take (min l[q].2.length 200)))] w6 := Pl.Sl.src (Pl.Sl.ofCb (s := 2) k_N3_0 (by omega)) rfl Tryd.underlying29 (by simp [Value.oneCell']) (by decide)
        have hGb := Pl.Gr.ex hG (Pl.Ex.trans hE5 hE6)
        refine Pl.qA_gr (e := 24) (bytes := 32) (z := .agg #[.string ⟨#[]⟩, .string ⟨#[]⟩]) (tx := 29) (news := [.string (mkS (([120] : T.Byt).take (min ([120] : T.Byt).length 20))), .string (mkS (l[q].2.take (min l[q].2.length 200)))]) hGb hsrc Tryd.underlying29 (by kernel_rfl) rfl (fun _ _ => trivial) (fun _ _ => trivial) (by omega) (by decide) (by omega) rfl rfl rfl rfl rfl rfl (fun _ _ => trivial) ?_
        intro v7 w7 hG7 hgr
        have hE7 := Pl.Ex.grown (Pl.Ex.trans hX (Pl.Ex.trans hE5 hE6)) hgr (fun k hk => (Pl.Gr.lies hGb k hk).1)
        obtain ⟨A7, c7, rfl, hc7⟩ := Pl.Gr.shp hG7
        have hG8 : Ge w7 w.heap.size (.slice A7 (ls ++ [((([120] : T.Byt).take (min ([120] : T.Byt).length 20)), (l[q].2.take (min l[q].2.length 200)))]).length c7) (ls ++ [((([120] : T.Byt).take (min ([120] : T.Byt).length 20)), (l[q].2.take (min l[q].2.length 200)))]) := by unfold Ge; rw [cE_snoc, List.length_append]; exact hG7
        refine Pl.qA_go trivial rfl ?_
        refine Pl.pA_end ?_
        repeat refine Pl.V_seq ?_
        refine Pl.V_endblock ?_
        repeat refine Pl.V_seq ?_
        refine Pl.V_region (by kernel_rfl) ?_
        refine Pl.qA_go trivial rfl ?_
        refine Pl.qA_b (v := .int .i64 (((q + 1) : Nat) : Int)) (fun X => Pl.r_add (Pl.a64 (a := q) (b := 1) rfl rfl (by omega)) X) trivial rfl rfl rfl rfl rfl rfl ?_
        refine Pl.qA_go trivial rfl ?_
        refine Pl.pA_end ?_
        refine Pl.V_again [(0, .slice (some ad) l.length c), (1, .int .i64 ((most : Nat) : Int)), (5, .slice A7 (ls.length + 1) c7), (6, .int .i64 (((q + 1) : Nat) : Int))] (Pl.subl_cons rfl (Pl.subl_cons rfl (Pl.subl_cons rfl (Pl.subl_cons rfl Pl.subl_nil)))) (k' := k - 1) (by omega) ⟨q + 1, ls ++ [((([120] : T.Byt).take (min ([120] : T.Byt).length 20)), (l[q].2.take (min l[q].2.length 200)))], A7, c7, by omega, by omega, by rw [List.length_append, hlen]; rfl, by rw [hsn, hls, T.fit_one hz]; rfl, hG8, hE7, by rw [List.length_append]; rfl⟩
      · repeat refine Pl.V_seq ?_
        refine Pl.V_region (by kernel_rfl) ?_
        refine Pl.qA_ev (.pointer (some ⟨N2, 0, none⟩)) trivial rfl rfl rfl rfl (fun X => by kernel_rfl) ?_
        refine Pl.qA_lcw (v := .string (mkS l[q].1)) Tryd.underlying9 rfl (Pl.Cb.at (j := 0) k_N2_1 rfl) trivial rfl rfl rfl rfl rfl ?_
        refine Pl.qA_lt Tryd.underlying9 trivial rfl rfl rfl rfl rfl ?_
        refine Pl.qA_b (v := .bool false) (fun X => Pl.r_eql (Pl.e_f (a := ((l[q].1.length : Nat) : Int)) (b := 0) (by omega)) X) trivial rfl rfl rfl rfl rfl rfl ?_
        refine Pl.pA_end ?_
        repeat refine Pl.V_seq ?_
        refine Pl.V_false rfl ?_
        repeat refine Pl.V_seq ?_
        refine Pl.V_skip ?_
        repeat refine Pl.V_seq ?_
        refine Pl.V_region (by kernel_rfl) ?_
        refine Pl.qA_ev (.pointer (some ⟨N2, 0, none⟩)) trivial rfl rfl rfl rfl (fun X => by kernel_rfl) ?_
        refine Pl.qA_lcw (v := .string (mkS l[q].1)) Tryd.underlying9 rfl (Pl.Cb.at (j := 0) k_N2_1 rfl) trivial rfl rfl rfl rfl rfl ?_
        refine Pl.qA_ev (.pointer (some ⟨N2, 0, none⟩)) trivial rfl rfl rfl rfl (fun X => by kernel_rfl) ?_
        refine Pl.qA_lcw (v := .string (mkS l[q].1)) Tryd.underlying9 rfl (Pl.Cb.at (j := 0) k_N2_1 rfl) trivial rfl rfl rfl rfl rfl ?_
        refine Pl.qA_lt Tryd.underlying9 trivial rfl rfl rfl rfl rfl ?_
        refine Pl.qA_mi (a := l[q].1.length) (b := 20) trivial rfl rfl rfl rfl rfl rfl rfl rfl ?_
        refine Pl.qA_sh (bs := l[q].1) (k := min l[q].1.length 20) Tryd.underlying9 (Nat.min_le_left _ _) trivial rfl rfl rfl rfl rfl rfl rfl ?_
        refine Pl.qA_ev (.pointer (some ⟨N2, 0, none⟩)) trivial rfl rfl rfl rfl (fun X => by kernel_rfl) ?_
        refine Pl.qA_s1 (j := 0) (u := .string (mkS (l[q].1.take (min l[q].1.length 20)))) k_N2_1 (by simp) (by kernel_rfl) rfl rfl rfl rfl rfl rfl rfl rfl (fun Y hY => trivial) ?_
        intro w3 hX3 k_N2_2
        have hE3 := Pl.Ex.xs hE2 hX3 (by omega)
        replace k_N2_2 : Pl.Cb w3 N2 24 [.string (mkS (l[q].1.take (min l[q].1.length 20))), .string (mkS l[q].2)] := k_N2_2
        have sz3 := Pl.Xs.size hX3
        refine Pl.pA_end ?_
        repeat refine Pl.V_seq ?_
        refine Pl.V_region (by kernel_rfl) ?_
        refine Pl.qA_ev (.pointer (some ⟨N2, 1, none⟩)) trivial rfl rfl rfl rfl (fun X => by kernel_rfl) ?_
        refine Pl.qA_lcw (v := .string (mkS l[q].2)) Tryd.underlying9 rfl (Pl.Cb.at (j := 1) k_N2_2 rfl) trivial rfl rfl rfl rfl rfl ?_
        refine Pl.qA_ev (.pointer (some ⟨N2, 1, none⟩)) trivial rfl rfl rfl rfl (fun X => by kernel_rfl) ?_
        refine Pl.qA_lcw (v := .string (mkS l[q].2)) Tryd.underlying9 rfl (Pl.Cb.at (j := 1) k_N2_2 rfl) trivial rfl rfl rfl rfl rfl ?_
        refine Pl.qA_lt Tryd.underlying9 trivial rfl rfl rfl rfl rfl ?_
        refine Pl.qA_mi (a := l[q].2.length) (b := 200) trivial rfl rfl rfl rfl rfl rfl rfl rfl ?_
        refine Pl.qA_sh (bs := l[q].2) (k := min l[q].2.length 200) Tryd.underlying9 (Nat.min_le_left _ _) trivial rfl rfl rfl rfl rfl rfl rfl ?_
        refine Pl.qA_ev (.pointer (some ⟨N2, 1, none⟩)) trivial rfl rfl rfl rfl (fun X => by kernel_rfl) ?_
        refine Pl.qA_s1 (j := 1) (u := .string (mkS (l[q].2.take (min l[q].2.length 200)))) k_N2_2 (by simp) (by kernel_rfl) rfl rfl rfl rfl rfl rfl rfl rfl (fun Y hY => trivial) ?_
        intro w4 hX4 k_N2_3
        have hE4 := Pl.Ex.xs hE3 hX4 (by omega)
        replace k_N2_3 : Pl.Cb w4 N2 24 [.string (mkS (l[q].1.take (min l[q].1.length 20))), .string (mkS (l[q].2.take (min l[q].2.length 200)))] := k_N2_3
        have sz4 := Pl.Xs.size hX4
        refine Pl.pA_end ?_
        repeat refine Pl.V_seq ?_
        refine Pl.V_region (by kernel_rfl) ?_
        refine Pl.qA_go trivial rfl ?_
        refine Pl.qA_lrw (part := [.string (mkS (l[q].1.take (min l[q].1.length 20))), .string (mkS (l[q].2.take (min l[q].2.length 200)))]) k_N2_3 rfl Tryd.underlying24 rfl (by kernel_rfl) trivial rfl rfl rfl rfl rfl ?_
        refine Pl.qA_bs (e := 24) (n := 1) [.string (mkS (l[q].1.take (min l[q].1.length 20))), .string (mkS (l[q].2.take (min l[q].2.length 200)))] rfl rfl rfl rfl (by kernel_rfl) (fun Y hY => trivial) ?_
        intro N3 w5 hE5 hN_N3 k_N3_0
        have z_N3 := Pl.Cb.lt k_N3_0
        have sz5 := Pl.Ex.size hE5
        have hsrc : Src Tryd.prog 2 29 (.slice (some ⟨N3, 0, none⟩) 1 1) 1 [.string (mkS (l[q].1.take (min l[q].1.length 20))), .string (mkS (l[q].2.take (min l[q].2.length 200)))] w5 := Pl.Sl.src (Pl.Sl.ofCb (s := 2) k_N3_0 (by omega)) rfl Tryd.underlying29 (by simp [Value.oneCell']) (by decide)
        have hGb := Pl.Gr.ex hG (Pl.Ex.trans hE4 hE5)
        refine Pl.qA_gr (e := 24) (bytes := 32) (z := .agg #[.string ⟨#[]⟩, .string ⟨#[]⟩]) (tx := 29) (news := [.string (mkS (l[q].1.take (min l[q].1.length 20))), .string (mkS (l[q].2.take (min l[q].2.length 200)))]) hGb hsrc Tryd.underlying29 (by kernel_rfl) rfl (fun _ _ => trivial) (fun _ _ => trivial) (by omega) (by decide) (by omega) rfl rfl rfl rfl rfl rfl (fun _ _ => trivial) ?_
        intro v7 w7 hG7 hgr
        have hE7 := Pl.Ex.grown (Pl.Ex.trans hX (Pl.Ex.trans hE4 hE5)) hgr (fun k hk => (Pl.Gr.lies hGb k hk).1)
        obtain ⟨A7, c7, rfl, hc7⟩ := Pl.Gr.shp hG7
        have hG8 : Ge w7 w.heap.size (.slice A7 (ls ++ [((l[q].1.take (min l[q].1.length 20)), (l[q].2.take (min l[q].2.length 200)))]).length c7) (ls ++ [((l[q].1.take (min l[q].1.length 20)), (l[q].2.take (min l[q].2.length 200)))]) := by unfold Ge; rw [cE_snoc, List.length_append]; exact hG7
        refine Pl.qA_go trivial rfl ?_
        refine Pl.pA_end ?_
        repeat refine Pl.V_seq ?_
        refine Pl.V_endblock ?_
        repeat refine Pl.V_seq ?_
        refine Pl.V_region (by kernel_rfl) ?_
        refine Pl.qA_go trivial rfl ?_
        refine Pl.qA_b (v := .int .i64 (((q + 1) : Nat) : Int)) (fun X => Pl.r_add (Pl.a64 (a := q) (b := 1) rfl rfl (by omega)) X) trivial rfl rfl rfl rfl rfl rfl ?_
        refine Pl.qA_go trivial rfl ?_
        refine Pl.pA_end ?_
        refine Pl.V_again [(0, .slice (some ad) l.length c), (1, .int .i64 ((most : Nat) : Int)), (5, .slice A7 (ls.length + 1) c7), (6, .int .i64 (((q + 1) : Nat) : Int))] (Pl.subl_cons rfl (Pl.subl_cons rfl (Pl.subl_cons rfl (Pl.subl_cons rfl Pl.subl_nil)))) (k' := k - 1) (by omega) ⟨q + 1, ls ++ [((l[q].1.take (min l[q].1.length 20)), (l[q].2.take (min l[q].2.length 200)))], A7, c7, by omega, by omega, by rw [List.length_append, hlen]; rfl, by rw [hsn, hls, T.fit_two hz]; rfl, hG8, hE7, by rw [List.length_append]; rfl⟩
    · repeat refine Pl.V_seq ?_
      refine Pl.V_region (by kernel_rfl) ?_
      refine Pl.qA_go trivial rfl ?_
      refine Pl.qA_ln Tryd.underlying29 trivial rfl rfl rfl rfl rfl ?_
      refine Pl.qA_b (v := .bool true) (fun X => Pl.r_lss (decide_eq_true (by omega)) X) trivial rfl rfl rfl rfl rfl rfl ?_
      refine Pl.qA_go trivial rfl ?_
      refine Pl.qA_b (v := .bool false) (fun X => Pl.r_lss (decide_eq_false (by omega)) X) trivial rfl rfl rfl rfl rfl rfl ?_
      refine Pl.qA_go trivial rfl ?_
      refine Pl.pA_end ?_
      repeat refine Pl.V_seq ?_
      refine Pl.V_false rfl ?_
      repeat refine Pl.V_seq ?_
      refine Pl.V_exit ?_
      repeat refine Pl.V_seq ?_
      refine Pl.V_region (by kernel_rfl) ?_
      refine Pl.qA_go trivial rfl ?_
      refine Pl.pA_end ?_
      repeat refine Pl.V_seq ?_
      exact Pl.post_ret rfl rfl ⟨_, rfl, by rw [show T.made l most = ls from by rw [hls]; unfold T.made; rw [show q = most by omega]]; exact (Pl.Gr.sl (n := ls.length) hG (by omega) : Pl.Sl _ _ _ ls.length (cE ls)), hX⟩
  · repeat refine Pl.V_seq ?_
    refine Pl.V_region (by kernel_rfl) ?_
    refine Pl.qA_go trivial rfl ?_
    refine Pl.qA_ln Tryd.underlying29 trivial rfl rfl rfl rfl rfl ?_
    refine Pl.qA_b (v := .bool false) (fun X => Pl.r_lss (decide_eq_false (by omega)) X) trivial rfl rfl rfl rfl rfl rfl ?_
    refine Pl.qA_go trivial rfl ?_
    refine Pl.pA_end ?_
    repeat refine Pl.V_seq ?_
    refine Pl.V_false rfl ?_
    repeat refine Pl.V_seq ?_
    refine Pl.V_exit ?_
    repeat refine Pl.V_seq ?_
    refine Pl.V_region (by kernel_rfl) ?_
    refine Pl.qA_go trivial rfl ?_
    refine Pl.pA_end ?_
    repeat refine Pl.V_seq ?_
    exact Pl.post_ret rfl rfl ⟨_, rfl, by rw [show T.made l most = ls from by rw [hls]; unfold T.made; rw [List.take_of_length_le (by omega), List.take_of_length_le (by omega)]]; exact (Pl.Gr.sl (n := ls.length) hG (by omega) : Pl.Sl _ _ _ ls.length (cE ls)), hX⟩
end Go.Proofs.YtmioaeaobefphaaDoor
/- The questions that stay live. -/
namespace Go.Proofs.YtmioaeaobefphaaDoor
open Go.RowKit 
set_option linter.unusedVariables false
set_option linter.unusedSimpArgs false
set_option maxRecDepth 100000
set_option maxHeartbeats 4000000
section
variable {P : Program} {L : List Oper} {S : World → Prop} {K : List (Nat × Value) → World → Prop} {kk : Bool} {i m d : Nat} {o : Oper} {x y : Operand} {r : List (Bool × Nat × Nat)} {l : List (Nat × Value)} {w : World}
theorem freeze_cells {N k : Nat} {T : TypeId} {cs : List Value} (h : Pl.Cb w N T cs) : (w.freeze ⟨N, k, none⟩ 1).heap[N]? = some (.cells cs.toArray T (k, k + 1)) := by
  unfold World.freeze
  rw [if_neg (by decide)]
  show (w.heap.modify N _)[N]? = _
  unfold Pl.Cb at h
  rw [Array.getElem?_modify, if_pos rfl, h]
  rfl
theorem freeze_xs (N k : Nat) : Pl.Xs [N] w (w.freeze ⟨N, k, none⟩ 1) := by
  unfold World.freeze
  rw [if_neg (by decide)]
  refine ⟨rfl, rfl, rfl, by simp, fun j hj hn => ?_⟩
  show (w.heap.modify N _)[j]? = _
  rw [Array.getElem?_modify, if_neg (fun e => hn (by simp [e]))]
/-- Bytes of a text of the code: they are marked. -/
theorem Pl.qA_cm {s e : TypeId} {N n : Nat} {cs : List Value} (hC : Pl.Cb w N e cs) (hs : P.underlying s = some (.slice e)) (he : P.underlying e = some (.int .u8)) (hn : n ≤ 9223372036854775807) (hS : ∀ Y, Pl.Xs [N] w Y → S Y) (ho : Pl.nth L i = some o) (hop : o.op = .convert s s x) (hd : o.dst = some d) (hg : Pl.gd L l o.guard = some true) (hx : Pl.opv l x = some (.slice (some ⟨N, 0, none⟩) n n))
    (h : ∀ w', Pl.Xs [N] w w' → Pl.Sl w' N (.slice (some ⟨N, 0, none⟩) n n) n cs → Pl.wpA P L S K r ((d, .slice (some ⟨N, 0, none⟩) n n) :: l) w') : Pl.wpA P L S K ((false, i, m) :: r) l w := by
  have hX := freeze_xs (w := w) N cs.length
  have hf := freeze_cells (k := cs.length) hC
  have hlt := Nat.lt_of_lt_of_le hC.lt hX.size
  refine Pl.pA_val (w' := w.freeze ⟨N, cs.length, none⟩ 1) ho hd hg (fun ρ hρ => ?_) (hS _ hX) (h _ hX ⟨_, n, rfl, Nat.le_refl _, hn, fun _ => ⟨_, rfl, Nat.le_refl _, hlt, fun j u hj => by
    rw [Addr.add_mid, Nat.zero_add, cell_of_row _ N j cs.toArray e _ hf]; simpa using hj⟩⟩)
  unfold execOp; rw [hop]
  refine Pl.run_valW _ ?_
  rw [hρ.opv hx]
  have hsh : w.shape? N = some (e, cs.length) := by
    unfold Pl.Cb at hC
    unfold World.shape?
    rw [hC]; simp
  simp [convert, run_underlying hs, run_underlying he, markStringish, hsh]
end
def T.hd : T.Ent := ([97], [98])
def T.hl : T.Byt := [3, 0, 0, 0, 1, 97, 98, 70, 245, 28, 114]
def T.h8 : T.Byt := [0, 0, 0, 0, 28, 223, 68, 33]
def T.h9 : T.Byt := [49, 50, 51, 52, 53, 54, 55, 56, 57]
theorem T.hl_eq : [] ++ T.recd T.hd = T.hl := by decide +kernel
theorem T.hd_may : T.May T.hd := ⟨by decide, by decide, by decide⟩
theorem T.rd_hl : T.rd T.hl = ([T.hd], 11, 0) := by decide +kernel
theorem T.rd_hl10 : T.rd (T.hl.take 10) = ([], 0, 301) := by decide +kernel
theorem T.rd_h8 : T.rd T.h8 = ([], 0, 300) := by decide +kernel
theorem T.csum_h9 : T.csum T.h9 = 3421780262 := by decide +kernel
theorem T.csum_nil : T.csum [] = 0 := by decide +kernel
theorem read_hl (w : World) {v : Value} {lo : Nat} (h : By w lo v T.hl) (hg : Gl w) : Calls Tryd.prog 14 #[v] w fun e w' => ∃ rv, e = .returned (.tuple #[rv, .int .i64 11, .int .i64 0]) ∧ Es w' w.heap.size rv [T.hd] ∧ Pl.Ex w w' := by
  have := read_calls w h hg (by decide)
  rw [T.rd_hl] at this; exact this
theorem read_hl10 (w : World) {v : Value} {lo : Nat} (h : By w lo v (T.hl.take 10)) (hg : Gl w) : Calls Tryd.prog 14 #[v] w fun e w' => ∃ rv, e = .returned (.tuple #[rv, .int .i64 0, .int .i64 301]) ∧ Pl.Ex w w' := by
  have := read_calls w h hg (by decide)
  rw [T.rd_hl10] at this
  exact this.mono fun e w' ⟨rv, h1, _, h2⟩ => ⟨rv, h1, h2⟩
theorem read_h8 (w : World) {v : Value} {lo : Nat} (h : By w lo v T.h8) (hg : Gl w) : Calls Tryd.prog 14 #[v] w fun e w' => ∃ rv, e = .returned (.tuple #[rv, .int .i64 0, .int .i64 300]) ∧ Pl.Ex w w' := by
  have := read_calls w h hg (by decide)
  rw [T.rd_h8] at this
  exact this.mono fun e w' ⟨rv, h1, _, h2⟩ => ⟨rv, h1, h2⟩
theorem repair_hl10 (w : World) {v : Value} {lo : Nat} (h : By w lo v (T.hl.take 10)) (hg : Gl w) : Calls Tryd.prog 19 #[v] w fun e w' => ∃ A c, e = .returned (.slice A 0 c) ∧ Pl.Ex w w' := by
  have := repair_calls w h hg (by decide)
  rw [T.rd_hl10] at this
  exact this.mono fun e w' ⟨rv, h1, hG, h2⟩ => by
    obtain ⟨A, c, rfl, _⟩ := Pl.Gr.shp hG
    exact ⟨A, c, h1, h2⟩
theorem sum_h9 (w : World) {v : Value} {lo : Nat} (h : By w lo v T.h9) (hg : Gl w) : Calls Tryd.prog 17 #[v] w fun e w' => e = .returned (.int .u32 3421780262) ∧ Pl.Ex w w' := by
  have := sumE w h hg
  rw [T.csum_h9] at this; exact this
theorem sum_nil (w : World) (hg : Gl w) : Calls Tryd.prog 17 #[.slice none 0 0] w fun e w' => e = .returned (.int .u32 0) ∧ Pl.Ex w w' := by
  have := sumE w (By.nil w 0) hg
  rw [T.csum_nil] at this; exact this
theorem append_hd (w : World) (hg : Gl w) : Calls Tryd.prog 12 #[.slice none 0 0, .agg #[.string ⟨#[97]⟩, .string ⟨#[98]⟩]] w fun e w' => ∃ ad c, e = .returned (.tuple #[.slice (some ad) 11 c, .int .i64 0]) ∧ 11 ≤ c ∧ By w' w.heap.size (.slice (some ad) 11 c) T.hl ∧ (∀ j, j < 11 → ∀ X, Pl.Ex w' X → X.cell? (ad.add (j * 1)) = some (.int .u8 ((T.bt T.hl j : Nat) : Int))) ∧ Pl.Ex w w' := by
  have := append_yes w T.hd (By.nil w 0) T.hd_may hg (by decide)
  rw [T.hl_eq] at this
  refine this.mono fun e w' ⟨v, h1, hG, h2⟩ => ?_
  have hb := Gy.by hG (by decide)
  obtain ⟨A, c, rfl, hc, _⟩ := hb.sh
  obtain ⟨ad, rfl, hat⟩ := By.all hb (by decide)
  exact ⟨ad, c, h1, hc, hb, hat, h2⟩
theorem append_bad (w : World) : Calls Tryd.prog 12 #[.slice none 0 0, .agg #[.string ⟨#[]⟩, .string ⟨#[98]⟩]] w fun e w' => e = .returned (.tuple #[.slice none 0 0, .int .i64 1]) ∧ Pl.Ex w w' :=
  append_no w (([], [98]) : T.Ent) (By.nil w 0) (fun h => absurd h.1 (by decide))
theorem same_hd (w : World) {v : Value} {lo N : Nat} (h : Es w lo v [T.hd]) (k : Pl.Cb w N 24 [.string ⟨#[97]⟩, .string ⟨#[98]⟩]) : Calls Tryd.prog 16 #[v, .slice (some ⟨N, 0, none⟩) 1 1] w fun e w' => e = .returned (.bool true) ∧ Pl.Ex w w' := by
  have := same_calls w h (show Es w N (.slice (some ⟨N, 0, none⟩) 1 1) [T.hd] from Pl.Sl.ofCb (s := 2) k (by omega))
  rw [decide_eq_true rfl] at this; exact this
theorem head_calls (w : World) (hg : Gl w) :
    Calls Tryd.prog 11 #[] w fun e w' => e = .returned (.bool true) ∧ Pl.Ex w w' := by
  refine Pl.calls_by (n := 125) (vs := []) Tryd.func11 rfl (by kernel_rfl) (by simp) ?_
  repeat refine Pl.V_seq ?_
  refine Pl.V_region (by kernel_rfl) ?_
  refine Pl.qA_go trivial rfl ?_
  refine Pl.pA_end ?_
  repeat refine Pl.V_seq ?_
  refine Pl.V_region (by kernel_rfl) ?_
  refine Pl.qA_ev (.agg #[.string ⟨#[97]⟩, .string ⟨#[98]⟩]) trivial rfl rfl rfl rfl (fun X => by kernel_rfl) ?_
  refine Pl.pA_call rfl rfl rfl rfl rfl (fun u X => Pl.enters Tryd.func12 (by kernel_rfl) rfl u X) ?_
  refine Calls.mono (append_hd _ (hg.ex (Pl.Ex.refl _))) ?_
  rintro e w1 ⟨ad, c, rfl, hc11, hb, hat, hE1⟩
  have sz1 := Pl.Ex.size hE1
  refine ⟨_, rfl, trivial, ?_⟩
  refine Pl.qA_go trivial rfl ?_
  refine Pl.pA_end ?_
  repeat refine Pl.V_seq ?_
  refine Pl.V_region (by kernel_rfl) ?_
  refine Pl.qA_ev (.agg #[.string ⟨#[]⟩, .string ⟨#[98]⟩]) trivial rfl rfl rfl rfl (fun X => by kernel_rfl) ?_
  refine Pl.pA_call rfl rfl rfl rfl rfl (fun u X => Pl.enters Tryd.func12 (by kernel_rfl) rfl u X) ?_
  refine Calls.mono (append_bad _) ?_
  rintro e w2 ⟨rfl, hE2⟩
  have sz2 := Pl.Ex.size hE2
  refine ⟨_, rfl, trivial, ?_⟩
  refine Pl.qA_go trivial rfl ?_
  refine Pl.pA_end ?_
  repeat refine Pl.V_seq ?_
  refine Pl.V_region (by kernel_rfl) ?_
  refine Pl.qA_go trivial rfl ?_
  refine Pl.qA_ln Tryd.underlying22 trivial rfl rfl rfl rfl rfl ?_
  refine Pl.qA_b (v := .bool false) (fun X => Pl.r_neq (Pl.n_f (by omega)) X) trivial rfl rfl rfl rfl rfl rfl ?_
  refine Pl.pA_end ?_
  repeat refine Pl.V_seq ?_
  refine Pl.V_false rfl ?_
  repeat refine Pl.V_seq ?_
  refine Pl.V_skip ?_
  repeat refine Pl.V_seq ?_
  refine Pl.V_region (by kernel_rfl) ?_
  refine Pl.qA_go trivial rfl ?_
  refine Pl.pA_call rfl rfl rfl rfl rfl (fun u X => Pl.enters Tryd.func14 (by kernel_rfl) rfl u X) ?_
  refine Calls.mono (read_hl _ (By.ex hb hE2) (hg.ex (Pl.Ex.trans hE1 hE2))) ?_
  rintro e w3 ⟨rv, rfl, hrv, hE3⟩
  have sz3 := Pl.Ex.size hE3
  refine ⟨_, rfl, trivial, ?_⟩
  refine Pl.qA_go trivial rfl ?_
  refine Pl.pA_end ?_
  repeat refine Pl.V_seq ?_
  refine Pl.V_region (by kernel_rfl) ?_
  refine Pl.qA_go trivial rfl ?_
  refine Pl.qA_sl (kl := .i64) (kh := .i64) (lo' := 0) (hi' := 10) (s := 1) Tryd.underlying22 (by kernel_rfl) (.inl ⟨rfl, rfl⟩) (.inr ⟨_, _, rfl, rfl, rfl⟩) (by omega) (by omega) trivial rfl rfl rfl rfl rfl ?_
  rw [cutA_zero]
  refine Pl.pA_call rfl rfl rfl rfl rfl (fun u X => Pl.enters Tryd.func14 (by kernel_rfl) rfl u X) ?_
  refine Calls.mono (read_hl10 _ (By.head (k := 10) (By.ex hb (Pl.Ex.trans hE2 hE3)) (by decide)) (hg.ex (Pl.Ex.trans hE1 (Pl.Ex.trans hE2 hE3)))) ?_
  rintro e w4 ⟨rv2, rfl, hE4⟩
  have sz4 := Pl.Ex.size hE4
  refine ⟨_, rfl, trivial, ?_⟩
  refine Pl.qA_go trivial rfl ?_
  refine Pl.pA_end ?_
  repeat refine Pl.V_seq ?_
  refine Pl.V_region (by kernel_rfl) ?_
  refine Pl.qA_bs (e := 5) (n := 8) [.int .u8 0, .int .u8 0, .int .u8 0, .int .u8 0, .int .u8 28, .int .u8 223, .int .u8 68, .int .u8 33] rfl rfl rfl rfl (by kernel_rfl) (fun Y hY => trivial) ?_
  intro N1 w5 hE5 hN_N1 k_N1_0
  have z_N1 := Pl.Cb.lt k_N1_0
  have sz5 := Pl.Ex.size hE5
  refine Pl.pA_call rfl rfl rfl rfl rfl (fun u X => Pl.enters Tryd.func14 (by kernel_rfl) rfl u X) ?_
  refine Calls.mono (read_h8 (lo := N1) _ (Pl.Sl.ofCb (s := 1) k_N1_0 (by omega)) (hg.ex (Pl.Ex.trans hE1 (Pl.Ex.trans hE2 (Pl.Ex.trans hE3 (Pl.Ex.trans hE4 hE5)))))) ?_
  rintro e w6 ⟨rv3, rfl, hE6⟩
  have sz6 := Pl.Ex.size hE6
  refine ⟨_, rfl, trivial, ?_⟩
  refine Pl.qA_go trivial rfl ?_
  refine Pl.pA_end ?_
  repeat refine Pl.V_seq ?_
  refine Pl.V_region (by kernel_rfl) ?_
  refine Pl.qA_bs (e := 5) (n := 9) [.int .u8 49, .int .u8 50, .int .u8 51, .int .u8 52, .int .u8 53, .int .u8 54, .int .u8 55, .int .u8 56, .int .u8 57] rfl rfl rfl rfl (by kernel_rfl) (fun Y hY => trivial) ?_
  intro N2 w7 hE7 hN_N2 k_N2_0
  have z_N2 := Pl.Cb.lt k_N2_0
  have sz7 := Pl.Ex.size hE7
  refine Pl.qA_cm k_N2_0 Tryd.underlying22 Tryd.underlying5 (by omega) (fun _ _ => trivial) rfl rfl rfl rfl rfl ?_
  intro w8 hX8 hb9
  have hE8 := Pl.Ex.xs hE7 hX8 (by omega)
  have sz8 := Pl.Xs.size hX8
  refine Pl.pA_call rfl rfl rfl rfl rfl (fun u X => Pl.enters Tryd.func17 (by kernel_rfl) rfl u X) ?_
  refine Calls.mono (sum_h9 (lo := N2) _ hb9 (hg.ex (Pl.Ex.trans hE1 (Pl.Ex.trans hE2 (Pl.Ex.trans hE3 (Pl.Ex.trans hE4 (Pl.Ex.trans hE5 (Pl.Ex.trans hE6 hE8)))))))) ?_
  rintro e w9 ⟨rfl, hE9⟩
  have sz9 := Pl.Ex.size hE9
  refine ⟨_, rfl, trivial, ?_⟩
  refine Pl.qA_b (v := .bool true) (fun X => Pl.r_eql (Pl.e_t (by omega)) X) trivial rfl rfl rfl rfl rfl rfl ?_
  refine Pl.qA_go trivial rfl ?_
  refine Pl.pA_call rfl rfl rfl rfl rfl (fun u X => Pl.enters Tryd.func17 (by kernel_rfl) rfl u X) ?_
  refine Calls.mono (sum_nil _ (hg.ex (Pl.Ex.trans hE1 (Pl.Ex.trans hE2 (Pl.Ex.trans hE3 (Pl.Ex.trans hE4 (Pl.Ex.trans hE5 (Pl.Ex.trans hE6 (Pl.Ex.trans hE8 hE9))))))))) ?_
  rintro e w10 ⟨rfl, hE10⟩
  have sz10 := Pl.Ex.size hE10
  refine ⟨_, rfl, trivial, ?_⟩
  refine Pl.qA_b (v := .bool true) (fun X => Pl.r_eql (Pl.e_t (by omega)) X) trivial rfl rfl rfl rfl rfl rfl ?_
  refine Pl.qA_go trivial rfl ?_
  refine Pl.qA_b (v := .bool true) (fun X => Pl.r_eql (Pl.e_t (by omega)) X) trivial rfl rfl rfl rfl rfl rfl ?_
  refine Pl.qA_go trivial rfl ?_
  refine Pl.qA_b (v := .bool true) (fun X => Pl.r_eql (Pl.e_t (by omega)) X) trivial rfl rfl rfl rfl rfl rfl ?_
  refine Pl.qA_go trivial rfl ?_
  refine Pl.qA_ix (s := 1) (j := 0) Tryd.underlying22 (by kernel_rfl) rfl (by omega) trivial rfl rfl rfl rfl rfl rfl ?_
  refine Pl.qA_lcw (v := .int .u8 3) Tryd.underlying5 rfl (hat 0 (by decide) _ (Pl.Ex.trans hE2 (Pl.Ex.trans hE3 (Pl.Ex.trans hE4 (Pl.Ex.trans hE5 (Pl.Ex.trans hE6 (Pl.Ex.trans hE8 (Pl.Ex.trans hE9 hE10)))))))) trivial rfl rfl rfl rfl rfl ?_
  refine Pl.qA_b (v := .bool true) (fun X => Pl.r_eql (Pl.e_t (by omega)) X) trivial rfl rfl rfl rfl rfl rfl ?_
  refine Pl.qA_go trivial rfl ?_
  refine Pl.qA_ix (s := 1) (j := 1) Tryd.underlying22 (by kernel_rfl) rfl (by omega) trivial rfl rfl rfl rfl rfl rfl ?_
  refine Pl.qA_lcw (v := .int .u8 0) Tryd.underlying5 rfl (hat 1 (by decide) _ (Pl.Ex.trans hE2 (Pl.Ex.trans hE3 (Pl.Ex.trans hE4 (Pl.Ex.trans hE5 (Pl.Ex.trans hE6 (Pl.Ex.trans hE8 (Pl.Ex.trans hE9 hE10)))))))) trivial rfl rfl rfl rfl rfl ?_
  refine Pl.qA_b (v := .bool true) (fun X => Pl.r_eql (Pl.e_t (by omega)) X) trivial rfl rfl rfl rfl rfl rfl ?_
  refine Pl.qA_go trivial rfl ?_
  refine Pl.qA_ix (s := 1) (j := 4) Tryd.underlying22 (by kernel_rfl) rfl (by omega) trivial rfl rfl rfl rfl rfl rfl ?_
  refine Pl.qA_lcw (v := .int .u8 1) Tryd.underlying5 rfl (hat 4 (by decide) _ (Pl.Ex.trans hE2 (Pl.Ex.trans hE3 (Pl.Ex.trans hE4 (Pl.Ex.trans hE5 (Pl.Ex.trans hE6 (Pl.Ex.trans hE8 (Pl.Ex.trans hE9 hE10)))))))) trivial rfl rfl rfl rfl rfl ?_
  refine Pl.qA_b (v := .bool true) (fun X => Pl.r_eql (Pl.e_t (by omega)) X) trivial rfl rfl rfl rfl rfl rfl ?_
  refine Pl.qA_go trivial rfl ?_
  refine Pl.qA_ix (s := 1) (j := 5) Tryd.underlying22 (by kernel_rfl) rfl (by omega) trivial rfl rfl rfl rfl rfl rfl ?_
  refine Pl.qA_lcw (v := .int .u8 97) Tryd.underlying5 rfl (hat 5 (by decide) _ (Pl.Ex.trans hE2 (Pl.Ex.trans hE3 (Pl.Ex.trans hE4 (Pl.Ex.trans hE5 (Pl.Ex.trans hE6 (Pl.Ex.trans hE8 (Pl.Ex.trans hE9 hE10)))))))) trivial rfl rfl rfl rfl rfl ?_
  refine Pl.qA_b (v := .bool true) (fun X => Pl.r_eql (Pl.e_t (by omega)) X) trivial rfl rfl rfl rfl rfl rfl ?_
  refine Pl.qA_go trivial rfl ?_
  refine Pl.qA_ix (s := 1) (j := 6) Tryd.underlying22 (by kernel_rfl) rfl (by omega) trivial rfl rfl rfl rfl rfl rfl ?_
  refine Pl.qA_lcw (v := .int .u8 98) Tryd.underlying5 rfl (hat 6 (by decide) _ (Pl.Ex.trans hE2 (Pl.Ex.trans hE3 (Pl.Ex.trans hE4 (Pl.Ex.trans hE5 (Pl.Ex.trans hE6 (Pl.Ex.trans hE8 (Pl.Ex.trans hE9 hE10)))))))) trivial rfl rfl rfl rfl rfl ?_
  refine Pl.qA_b (v := .bool true) (fun X => Pl.r_eql (Pl.e_t (by omega)) X) trivial rfl rfl rfl rfl rfl rfl ?_
  refine Pl.qA_go trivial rfl ?_
  refine Pl.qA_ev (.agg #[.string ⟨#[97]⟩, .string ⟨#[98]⟩]) trivial rfl rfl rfl rfl (fun X => by kernel_rfl) ?_
  refine Pl.qA_bs (e := 24) (n := 1) [.string ⟨#[97]⟩, .string ⟨#[98]⟩] rfl rfl rfl rfl (by kernel_rfl) (fun Y hY => trivial) ?_
  intro N3 w11 hE11 hN_N3 k_N3_0
  have z_N3 := Pl.Cb.lt k_N3_0
  have sz11 := Pl.Ex.size hE11
  refine Pl.pA_call rfl rfl rfl rfl rfl (fun u X => Pl.enters Tryd.func16 (by kernel_rfl) rfl u X) ?_
  refine Calls.mono (same_hd _ (Es.ex hrv (Pl.Ex.trans hE4 (Pl.Ex.trans hE5 (Pl.Ex.trans hE6 (Pl.Ex.trans hE8 (Pl.Ex.trans hE9 (Pl.Ex.trans hE10 hE11))))))) k_N3_0) ?_
  rintro e w12 ⟨rfl, hE12⟩
  have sz12 := Pl.Ex.size hE12
  refine ⟨_, rfl, trivial, ?_⟩
  refine Pl.qA_go trivial rfl ?_
  refine Pl.qA_b (v := .bool true) (fun X => Pl.r_eql (Pl.e_t (by omega)) X) trivial rfl rfl rfl rfl rfl rfl ?_
  refine Pl.qA_go trivial rfl ?_
  refine Pl.qA_b (v := .bool true) (fun X => Pl.r_eql (Pl.e_t (by omega)) X) trivial rfl rfl rfl rfl rfl rfl ?_
  refine Pl.qA_go trivial rfl ?_
  refine Pl.qA_b (v := .bool true) (fun X => Pl.r_eql (Pl.e_t (by omega)) X) trivial rfl rfl rfl rfl rfl rfl ?_
  refine Pl.qA_go trivial rfl ?_
  refine Pl.qA_b (v := .bool true) (fun X => Pl.r_eql (Pl.e_t (by omega)) X) trivial rfl rfl rfl rfl rfl rfl ?_
  refine Pl.qA_go trivial rfl ?_
  refine Pl.qA_b (v := .bool true) (fun X => Pl.r_eql (Pl.e_t (by omega)) X) trivial rfl rfl rfl rfl rfl rfl ?_
  refine Pl.qA_go trivial rfl ?_
  refine Pl.qA_sl (kl := .i64) (kh := .i64) (lo' := 0) (hi' := 10) (s := 1) Tryd.underlying22 (by kernel_rfl) (.inl ⟨rfl, rfl⟩) (.inr ⟨_, _, rfl, rfl, rfl⟩) (by omega) (by omega) trivial rfl rfl rfl rfl rfl ?_
  rw [cutA_zero]
  refine Pl.pA_call rfl rfl rfl rfl rfl (fun u X => Pl.enters Tryd.func19 (by kernel_rfl) rfl u X) ?_
  refine Calls.mono (repair_hl10 _ (By.head (k := 10) (By.ex hb (Pl.Ex.trans hE2 (Pl.Ex.trans hE3 (Pl.Ex.trans hE4 (Pl.Ex.trans hE5 (Pl.Ex.trans hE6 (Pl.Ex.trans hE8 (Pl.Ex.trans hE9 (Pl.Ex.trans hE10 (Pl.Ex.trans hE11 hE12)))))))))) (by decide)) (hg.ex (Pl.Ex.trans hE1 (Pl.Ex.trans hE2 (Pl.Ex.trans hE3 (Pl.Ex.trans hE4 (Pl.Ex.trans hE5 (Pl.Ex.trans hE6 (Pl.Ex.trans hE8 (Pl.Ex.trans hE9 (Pl.Ex.trans hE10 (Pl.Ex.trans hE11 hE12)))))))))))) ?_
  rintro e w13 ⟨A9, c9, rfl, hE13⟩
  have sz13 := Pl.Ex.size hE13
  refine ⟨_, rfl, trivial, ?_⟩
  refine Pl.qA_ln Tryd.underlying22 trivial rfl rfl rfl rfl rfl ?_
  refine Pl.qA_b (v := .bool true) (fun X => Pl.r_eql (Pl.e_t (by omega)) X) trivial rfl rfl rfl rfl rfl rfl ?_
  refine Pl.qA_go trivial rfl ?_
  refine Pl.pA_end ?_
  repeat refine Pl.V_seq ?_
  exact Pl.post_ret rfl rfl ⟨rfl, (Pl.Ex.trans hE1 (Pl.Ex.trans hE2 (Pl.Ex.trans hE3 (Pl.Ex.trans hE4 (Pl.Ex.trans hE5 (Pl.Ex.trans hE6 (Pl.Ex.trans hE8 (Pl.Ex.trans hE9 (Pl.Ex.trans hE10 (Pl.Ex.trans hE11 (Pl.Ex.trans hE12 hE13)))))))))))⟩
end Go.Proofs.YtmioaeaobefphaaDoor
