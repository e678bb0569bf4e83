/- Four bytes of a number, and back; which entries may be. -/
import Derived.Test.YtmioaeaobefphaaDoorBag

namespace Go.Proofs.YtmioaeaobefphaaDoor
open Go.RowKit 
set_option linter.unusedVariables false
set_option linter.unusedSimpArgs false
set_option maxRecDepth 100000
set_option maxHeartbeats 4000000
def mkS (bs : T.Byt) : ByteArray := ⟨bs.toArray⟩
theorem mkS_size (bs : T.Byt) : (mkS bs).size = bs.length := rfl
theorem mkS_cells (bs : T.Byt) : byteCells (mkS bs) = cB bs := rfl
/-- A row of the call's own: these bytes. -/
def Gy (w : World) (base : Nat) (v : Value) (bs : T.Byt) : Prop := Pl.Gr (fun _ => True) w base 5 1 v bs.length (cB bs)
theorem Gy.by {w : World} {base : Nat} {v : Value} {bs : T.Byt} (h : Gy w base v bs) (hm : bs.length ≤ 1000000000) : By w base v bs := Pl.Gr.sl h (by omega)
theorem Gy.ex {w w' : World} {base : Nat} {v : Value} {bs : T.Byt} (h : Gy w base v bs) (k : Pl.Ex w w') : Gy w' base v bs := Pl.Gr.ex h k
theorem Gy.app {w : World} {base : Nat} {v : Value} {a b : T.Byt} (h : Pl.Gr (fun _ => True) w base 5 1 v (a.length + b.length) (cB a ++ cB b)) : Gy w base v (a ++ b) := by
  unfold Gy; rw [List.length_append, cB_append]; exact h
theorem Gy.ofCb {w : World} {N base : Nat} {bs : T.Byt} (h : Pl.Cb w N 5 (cB bs)) (hb : base ≤ N) (hm : bs.length ≤ 1000000) : Gy w base (.slice (some ⟨N, 0, none⟩) bs.length bs.length) bs :=
  Pl.Gr.ofCb h hb (by rw [cB_len, Nat.mul_one]) (by unfold maxLen; omega) (fun _ _ => trivial)
theorem By.src {w : World} {lo : Nat} {v : Value} {bs : T.Byt} (h : By w lo v bs) : Src Tryd.prog 1 22 v bs.length (cB bs) w := Pl.Sl.src h (by rw [cB_len, Nat.mul_one]) Tryd.underlying22 (cB_one bs) (by decide)
theorem srcS (w : World) (bs : T.Byt) : Src Tryd.prog 1 9 (.string (mkS bs)) bs.length (cB bs) w := Src.ofString w Tryd.underlying9 (mkS bs)
theorem By.all {w : World} {lo n c : Nat} {A : Option Addr} {bs : T.Byt} (h : By w lo (.slice A n c) bs) (h0 : 0 < bs.length) : ∃ ad, A = some ad ∧ ∀ j, j < bs.length → ∀ X, Pl.Ex w X → X.cell? (ad.add (j * 1)) = some (.int .u8 ((T.bt bs j : Nat) : Int)) := by
  obtain ⟨A', c', e, h1, h2, h3⟩ := h
  cases e
  obtain ⟨ad, e, _, hb, hc⟩ := h3 (by rw [cB_len]; omega)
  refine ⟨ad, e, fun j hj X hX => ?_⟩
  rw [Nat.mul_one, (Below.cell hX (by rw [Pl.Sl.xs.addr_blk]; exact hb)), hc j _ (cB_get hj)]
  unfold T.bt
  rw [List.getElem?_eq_getElem hj]; rfl
theorem or8 {a y : Nat} (h : a < 256) : a ||| (y * 256) = a + 256 * y := by rw [Nat.mul_comm 256]; exact Pl.or_add (i := 8) h
theorem or16 {a y : Nat} (h : a < 65536) : a ||| (y * 65536) = a + 65536 * y := by rw [Nat.mul_comm 65536]; exact Pl.or_add (i := 16) h
theorem or24 {a y : Nat} (h : a < 16777216) : a ||| (y * 16777216) = a + 16777216 * y := by rw [Nat.mul_comm 16777216]; exact Pl.or_add (i := 24) h
theorem four_calls (w : World) (n : Nat) (hn : n < 4294967296) :
    Calls Tryd.prog 33 #[.int .u32 ((n : Nat) : Int)] w fun e w' => ∃ v, e = .returned v ∧ Gy w' w.heap.size v (T.four n) ∧ Pl.Ex w w' := by
  refine Pl.calls_by (n := 15) (vs := [.int .u32 ((n : Nat) : Int)]) Tryd.func33 rfl (by kernel_rfl) (by simp) ?_
  repeat refine Pl.V_seq ?_
  refine Pl.V_region (by kernel_rfl) ?_
  refine Pl.qA_go trivial rfl ?_
  refine Pl.pA_end ?_
  repeat refine Pl.V_seq ?_
  refine Pl.V_region (by kernel_rfl) ?_
  refine Pl.qA_go trivial rfl ?_
  refine Pl.qA_cv (c := (((UInt8.ofNat n).toNat : Nat) : Int)) Tryd.underlying5 (by kernel_rfl) (Pl.w8o (by omega)) trivial rfl rfl rfl rfl rfl ?_
  refine Pl.qA_go trivial rfl ?_
  refine Pl.qA_b (v := .int .u32 ((n / 256 : Nat) : Int)) (fun X => Pl.r_shr (n := n) (m := 8) rfl (by decide) X) trivial rfl rfl rfl rfl rfl rfl ?_
  refine Pl.qA_cv (c := (((UInt8.ofNat (n / 256)).toNat : Nat) : Int)) Tryd.underlying5 (by kernel_rfl) (Pl.w8o (by omega)) trivial rfl rfl rfl rfl rfl ?_
  refine Pl.qA_go trivial rfl ?_
  refine Pl.qA_b (v := .int .u32 ((n / 65536 : Nat) : Int)) (fun X => Pl.r_shr (n := n) (m := 16) rfl (by decide) X) trivial rfl rfl rfl rfl rfl rfl ?_
  refine Pl.qA_cv (c := (((UInt8.ofNat (n / 65536)).toNat : Nat) : Int)) Tryd.underlying5 (by kernel_rfl) (Pl.w8o (by omega)) trivial rfl rfl rfl rfl rfl ?_
  refine Pl.qA_go trivial rfl ?_
  refine Pl.qA_b (v := .int .u32 ((n / 16777216 : Nat) : Int)) (fun X => Pl.r_shr (n := n) (m := 24) rfl (by decide) X) trivial rfl rfl rfl rfl rfl rfl ?_
  refine Pl.qA_cv (c := (((UInt8.ofNat (n / 16777216)).toNat : Nat) : Int)) Tryd.underlying5 (by kernel_rfl) (Pl.w8o (by omega)) trivial rfl rfl rfl rfl rfl ?_
  refine Pl.qA_bs (e := 5) (n := 4) [.int .u8 (((UInt8.ofNat n).toNat : Nat) : Int), .int .u8 (((UInt8.ofNat (n / 256)).toNat : Nat) : Int), .int .u8 (((UInt8.ofNat (n / 65536)).toNat : Nat) : Int), .int .u8 (((UInt8.ofNat (n / 16777216)).toNat : Nat) : Int)] rfl rfl rfl rfl (by kernel_rfl) (fun Y hY => trivial) ?_
  intro N1 w1 hE1 hN_N1 k_N1_0
  have z_N1 := Pl.Cb.lt k_N1_0
  have sz1 := Pl.Ex.size hE1
  refine Pl.qA_go trivial rfl ?_
  refine Pl.pA_end ?_
  refine Pl.post_ret rfl rfl ⟨_, rfl, Gy.ofCb (bs := T.four n) k_N1_0 (Nat.le_of_eq hN_N1.symm) (by rw [T.four_len]; decide), hE1⟩
theorem number_calls (w : World) (v : Value) (lo : Nat) (bs : T.Byt) (h : By w lo v bs) (h4 : 4 ≤ bs.length) :
    Calls Tryd.prog 41 #[v] w fun e w' => e = .returned (.int .u32 ((T.number bs : Nat) : Int)) ∧ Pl.Ex w w' := by
  obtain ⟨A, c, rfl, hnc, hcm⟩ := h.sh
  obtain ⟨ad, rfl, hc⟩ := h.all (by omega)
  refine Pl.calls_by (n := 25) (vs := [.slice (some ad) bs.length c]) Tryd.func41 rfl (by kernel_rfl) (by simp) ?_
  repeat refine Pl.V_seq ?_
  refine Pl.V_region (by kernel_rfl) ?_
  refine Pl.qA_go trivial rfl ?_
  refine Pl.pA_end ?_
  have hb0 := T.bt_lt bs 0
  have hb1 := T.bt_lt bs 1
  have hb2 := T.bt_lt bs 2
  have hb3 := T.bt_lt bs 3
  have hnum : T.bt bs 0 + 256 * T.bt bs 1 + 65536 * T.bt bs 2 + 16777216 * T.bt bs 3 = T.number bs := rfl
  have hc0 := hc 0 (by omega)
  have hc1 := hc 1 (by omega)
  have hc2 := hc 2 (by omega)
  have hc3 := hc 3 (by omega)
  clear hc
  generalize T.bt bs 0 = b0 at *
  generalize T.bt bs 1 = b1 at *
  generalize T.bt bs 2 = b2 at *
  generalize T.bt bs 3 = b3 at *
  repeat refine Pl.V_seq ?_
  refine Pl.V_draw (S := fun X => Pl.Ex w X) [(true, 0, 0), (true, 1, 1), (true, 2, 3), (true, 3, 7), (true, 4, 15), (true, 5, 31), (true, 6, 63), (true, 7, 127), (true, 8, 255), (true, 9, 511), (true, 10, 1023), (true, 11, 2047), (true, 12, 4095), (true, 13, 8191), (true, 14, 16383), (true, 15, 32767), (true, 16, 65535), (true, 17, 131071), (true, 18, 262143), (true, 19, 524287), (true, 20, 1048575), (true, 21, 2097151), (true, 22, 4194303)] fo Pl.post_panic (by kernel_rfl) (Pl.Ex.trans (Pl.Ex.refl _) (Pl.Ex.drew _)) ?_
  have hE1 := Pl.Ex.drew w
  generalize w.drew = w1 at *
  have sz1 := Pl.Ex.size hE1
  intro hS1
  refine Pl.qA_go hS1 rfl ?_
  refine Pl.qA_ix (s := 1) (j := 0) Tryd.underlying22 (by kernel_rfl) rfl (by omega) hS1 rfl rfl rfl rfl rfl rfl ?_
  refine Pl.qA_lc (v := .int .u8 ((b0 : Nat) : Int)) Tryd.underlying5 rfl (fun X hX => hc0 X hX) hS1 rfl rfl rfl rfl rfl ?_
  refine Pl.qA_cv (c := ((b0 : Nat) : Int)) Tryd.underlying33 (by kernel_rfl) (Pl.c_id (a := b0) rfl (Pl.w32 (by omega) (by omega))) hS1 rfl rfl rfl rfl rfl ?_
  refine Pl.qA_go hS1 rfl ?_
  refine Pl.qA_ix (s := 1) (j := 1) Tryd.underlying22 (by kernel_rfl) rfl (by omega) hS1 rfl rfl rfl rfl rfl rfl ?_
  refine Pl.qA_lc (v := .int .u8 ((b1 : Nat) : Int)) Tryd.underlying5 rfl (fun X hX => hc1 X hX) hS1 rfl rfl rfl rfl rfl ?_
  refine Pl.qA_cv (c := ((b1 : Nat) : Int)) Tryd.underlying33 (by kernel_rfl) (Pl.c_id (a := b1) rfl (Pl.w32 (by omega) (by omega))) hS1 rfl rfl rfl rfl rfl ?_
  refine Pl.qA_b (v := .int .u32 ((b1 * 256 : Nat) : Int)) (fun X => Pl.r_shl32 (n := b1) (m := 8) rfl (by decide) (by omega) (by omega) X) hS1 rfl rfl rfl rfl rfl rfl ?_
  refine Pl.qA_b (v := .int .u32 ((b0 + 256 * b1 : Nat) : Int)) (fun X => Pl.r_or32 (a := b0) (b := b1 * 256) (by omega) (by omega) rfl rfl (or8 (by omega)) X) hS1 rfl rfl rfl rfl rfl rfl ?_
  refine Pl.qA_go hS1 rfl ?_
  refine Pl.qA_ix (s := 1) (j := 2) Tryd.underlying22 (by kernel_rfl) rfl (by omega) hS1 rfl rfl rfl rfl rfl rfl ?_
  refine Pl.qA_lc (v := .int .u8 ((b2 : Nat) : Int)) Tryd.underlying5 rfl (fun X hX => hc2 X hX) hS1 rfl rfl rfl rfl rfl ?_
  refine Pl.qA_cv (c := ((b2 : Nat) : Int)) Tryd.underlying33 (by kernel_rfl) (Pl.c_id (a := b2) rfl (Pl.w32 (by omega) (by omega))) hS1 rfl rfl rfl rfl rfl ?_
  refine Pl.qA_b (v := .int .u32 ((b2 * 65536 : Nat) : Int)) (fun X => Pl.r_shl32 (n := b2) (m := 16) rfl (by decide) (by omega) (by omega) X) hS1 rfl rfl rfl rfl rfl rfl ?_
  refine Pl.qA_b (v := .int .u32 ((b0 + 256 * b1 + 65536 * b2 : Nat) : Int)) (fun X => Pl.r_or32 (a := b0 + 256 * b1) (b := b2 * 65536) (by omega) (by omega) rfl rfl (or16 (by omega)) X) hS1 rfl rfl rfl rfl rfl rfl ?_
  refine Pl.qA_go hS1 rfl ?_
  refine Pl.qA_ix (s := 1) (j := 3) Tryd.underlying22 (by kernel_rfl) rfl (by omega) hS1 rfl rfl rfl rfl rfl rfl ?_
  refine Pl.qA_lc (v := .int .u8 ((b3 : Nat) : Int)) Tryd.underlying5 rfl (fun X hX => hc3 X hX) hS1 rfl rfl rfl rfl rfl ?_
  refine Pl.qA_cv (c := ((b3 : Nat) : Int)) Tryd.underlying33 (by kernel_rfl) (Pl.c_id (a := b3) rfl (Pl.w32 (by omega) (by omega))) hS1 rfl rfl rfl rfl rfl ?_
  refine Pl.qA_b (v := .int .u32 ((b3 * 16777216 : Nat) : Int)) (fun X => Pl.r_shl32 (n := b3) (m := 24) rfl (by decide) (by omega) (by omega) X) hS1 rfl rfl rfl rfl rfl rfl ?_
  refine Pl.qA_b (v := .int .u32 ((b0 + 256 * b1 + 65536 * b2 + 16777216 * b3 : Nat) : Int)) (fun X => Pl.r_or32 (a := b0 + 256 * b1 + 65536 * b2) (b := b3 * 16777216) (by omega) (by omega) rfl rfl (or24 (by omega)) X) hS1 rfl rfl rfl rfl rfl rfl ?_
  refine Pl.qA_go hS1 rfl ?_
  refine Pl.pA_end ?_
  rw [← hnum]
  exact Pl.post_ret rfl rfl ⟨rfl, hE1⟩
theorem may_calls (w : World) (e0 : T.Ent) :
    Calls Tryd.prog 24 #[.agg #[.string (mkS e0.1), .string (mkS e0.2)]] w fun e w' => e = .returned (.bool (decide (T.May e0))) ∧ Pl.Ex w w' := by
  have hs1 := mkS_size e0.1
  have hs2 := mkS_size e0.2
  refine Pl.calls_by (n := 19) (vs := [.agg #[.string (mkS e0.1), .string (mkS e0.2)]]) Tryd.func24 rfl (by kernel_rfl) (by simp) ?_
  repeat refine Pl.V_seq ?_
  refine Pl.V_region (by kernel_rfl) ?_
  refine Pl.qA_bx (cs := [.string (mkS e0.1), .string (mkS e0.2)]) rfl rfl rfl rfl rfl rfl (fun Y hY => trivial) ?_
  intro N1 w1 hE1 hN_N1 k_N1_0
  have z_N1 := Pl.Cb.lt k_N1_0
  have sz1 := Pl.Ex.size hE1
  refine Pl.qA_go trivial rfl ?_
  refine Pl.pA_end ?_
  by_cases h1 : 1 ≤ e0.1.length
  · by_cases h2 : e0.1.length ≤ 20
    · by_cases h3 : e0.2.length ≤ 20000
      · repeat refine Pl.V_seq ?_
        refine Pl.V_region (by kernel_rfl) ?_
        refine Pl.qA_ev (.pointer (some ⟨N1, 0, none⟩)) trivial rfl rfl rfl rfl (fun X => by kernel_rfl) ?_
        refine Pl.qA_lcw (v := .string (mkS e0.1)) Tryd.underlying9 rfl (Pl.Cb.at (j := 0) k_N1_0 rfl) trivial rfl rfl rfl rfl rfl ?_
        refine Pl.qA_lt Tryd.underlying9 trivial rfl rfl rfl rfl rfl ?_
        refine Pl.qA_b (v := .bool true) (fun X => Pl.r_geq (decide_eq_true (by omega)) X) trivial rfl rfl rfl rfl rfl rfl ?_
        refine Pl.qA_go trivial rfl ?_
        refine Pl.qA_ev (.pointer (some ⟨N1, 0, none⟩)) trivial rfl rfl rfl rfl (fun X => by kernel_rfl) ?_
        refine Pl.qA_lcw (v := .string (mkS e0.1)) Tryd.underlying9 rfl (Pl.Cb.at (j := 0) k_N1_0 rfl) trivial rfl rfl rfl rfl rfl ?_
        refine Pl.qA_lt Tryd.underlying9 trivial rfl rfl rfl rfl rfl ?_
        refine Pl.qA_b (v := .bool true) (fun X => Pl.r_leq (decide_eq_true (by omega)) X) trivial rfl rfl rfl rfl rfl rfl ?_
        refine Pl.qA_go trivial rfl ?_
        refine Pl.qA_ev (.pointer (some ⟨N1, 1, none⟩)) trivial rfl rfl rfl rfl (fun X => by kernel_rfl) ?_
        refine Pl.qA_lcw (v := .string (mkS e0.2)) Tryd.underlying9 rfl (Pl.Cb.at (j := 1) k_N1_0 rfl) trivial rfl rfl rfl rfl rfl ?_
        refine Pl.qA_lt Tryd.underlying9 trivial rfl rfl rfl rfl rfl ?_
        refine Pl.qA_b (v := .bool true) (fun X => Pl.r_leq (decide_eq_true (by omega)) X) trivial rfl rfl rfl rfl rfl rfl ?_
        refine Pl.qA_go trivial rfl ?_
        refine Pl.pA_end ?_
        rw [show decide (T.May e0) = true from decide_eq_true ⟨h1, h2, h3⟩]
        exact Pl.post_ret rfl rfl ⟨rfl, hE1⟩
      · repeat refine Pl.V_seq ?_
        refine Pl.V_region (by kernel_rfl) ?_
        refine Pl.qA_ev (.pointer (some ⟨N1, 0, none⟩)) trivial rfl rfl rfl rfl (fun X => by kernel_rfl) ?_
        refine Pl.qA_lcw (v := .string (mkS e0.1)) Tryd.underlying9 rfl (Pl.Cb.at (j := 0) k_N1_0 rfl) trivial rfl rfl rfl rfl rfl ?_
        refine Pl.qA_lt Tryd.underlying9 trivial rfl rfl rfl rfl rfl ?_
        refine Pl.qA_b (v := .bool true) (fun X => Pl.r_geq (decide_eq_true (by omega)) X) trivial rfl rfl rfl rfl rfl rfl ?_
        refine Pl.qA_go trivial rfl ?_
        refine Pl.qA_ev (.pointer (some ⟨N1, 0, none⟩)) trivial rfl rfl rfl rfl (fun X => by kernel_rfl) ?_
        refine Pl.qA_lcw (v := .string (mkS e0.1)) Tryd.underlying9 rfl (Pl.Cb.at (j := 0) k_N1_0 rfl) trivial rfl rfl rfl rfl rfl ?_
        refine Pl.qA_lt Tryd.underlying9 trivial rfl rfl rfl rfl rfl ?_
        refine Pl.qA_b (v := .bool true) (fun X => Pl.r_leq (decide_eq_true (by omega)) X) trivial rfl rfl rfl rfl rfl rfl ?_
        refine Pl.qA_go trivial rfl ?_
        refine Pl.qA_ev (.pointer (some ⟨N1, 1, none⟩)) trivial rfl rfl rfl rfl (fun X => by kernel_rfl) ?_
        refine Pl.qA_lcw (v := .string (mkS e0.2)) Tryd.underlying9 rfl (Pl.Cb.at (j := 1) k_N1_0 rfl) trivial rfl rfl rfl rfl rfl ?_
        refine Pl.qA_lt Tryd.underlying9 trivial rfl rfl rfl rfl rfl ?_
        refine Pl.qA_b (v := .bool false) (fun X => Pl.r_leq (decide_eq_false (by omega)) X) trivial rfl rfl rfl rfl rfl rfl ?_
        refine Pl.qA_go trivial rfl ?_
        refine Pl.pA_end ?_
        rw [show decide (T.May e0) = false from decide_eq_false (fun hm => h3 hm.2.2)]
        exact Pl.post_ret rfl rfl ⟨rfl, hE1⟩
    · repeat refine Pl.V_seq ?_
      refine Pl.V_region (by kernel_rfl) ?_
      refine Pl.qA_ev (.pointer (some ⟨N1, 0, none⟩)) trivial rfl rfl rfl rfl (fun X => by kernel_rfl) ?_
      refine Pl.qA_lcw (v := .string (mkS e0.1)) Tryd.underlying9 rfl (Pl.Cb.at (j := 0) k_N1_0 rfl) trivial rfl rfl rfl rfl rfl ?_
      refine Pl.qA_lt Tryd.underlying9 trivial rfl rfl rfl rfl rfl ?_
      refine Pl.qA_b (v := .bool true) (fun X => Pl.r_geq (decide_eq_true (by omega)) X) trivial rfl rfl rfl rfl rfl rfl ?_
      refine Pl.qA_go trivial rfl ?_
      refine Pl.qA_ev (.pointer (some ⟨N1, 0, none⟩)) trivial rfl rfl rfl rfl (fun X => by kernel_rfl) ?_
      refine Pl.qA_lcw (v := .string (mkS e0.1)) Tryd.underlying9 rfl (Pl.Cb.at (j := 0) k_N1_0 rfl) trivial rfl rfl rfl rfl rfl ?_
      refine Pl.qA_lt Tryd.underlying9 trivial rfl rfl rfl rfl rfl ?_
      refine Pl.qA_b (v := .bool false) (fun X => Pl.r_leq (decide_eq_false (by omega)) X) trivial rfl rfl rfl rfl rfl rfl ?_
      refine Pl.qA_go trivial rfl ?_
      refine Pl.pA_end ?_
      rw [show decide (T.May e0) = false from decide_eq_false (fun hm => h2 hm.2.1)]
      exact Pl.post_ret rfl rfl ⟨rfl, hE1⟩
  · repeat refine Pl.V_seq ?_
    refine Pl.V_region (by kernel_rfl) ?_
    refine Pl.qA_ev (.pointer (some ⟨N1, 0, none⟩)) trivial rfl rfl rfl rfl (fun X => by kernel_rfl) ?_
    refine Pl.qA_lcw (v := .string (mkS e0.1)) Tryd.underlying9 rfl (Pl.Cb.at (j := 0) k_N1_0 rfl) trivial rfl rfl rfl rfl rfl ?_
    refine Pl.qA_lt Tryd.underlying9 trivial rfl rfl rfl rfl rfl ?_
    refine Pl.qA_b (v := .bool false) (fun X => Pl.r_geq (decide_eq_false (by omega)) X) trivial rfl rfl rfl rfl rfl rfl ?_
    refine Pl.qA_go trivial rfl ?_
    refine Pl.pA_end ?_
    rw [show decide (T.May e0) = false from decide_eq_false (fun hm => h1 hm.1)]
    exact Pl.post_ret rfl rfl ⟨rfl, hE1⟩
theorem rfour_calls (w : World) (n : Nat) (hn : n < 4294967296) :
    Calls Tryd.prog 27 #[.int .u32 ((n : Nat) : Int)] w fun e w' => ∃ v, e = .returned v ∧ Gy w' w.heap.size v (T.four n) ∧ Pl.Ex w w' := by
  refine Pl.calls_by (n := 15) (vs := [.int .u32 ((n : Nat) : Int)]) Tryd.func27 rfl (by kernel_rfl) (by simp) ?_
  repeat refine Pl.V_seq ?_
  refine Pl.V_region (by kernel_rfl) ?_
  refine Pl.qA_go trivial rfl ?_
  refine Pl.pA_end ?_
  repeat refine Pl.V_seq ?_
  refine Pl.V_region (by kernel_rfl) ?_
  refine Pl.qA_go trivial rfl ?_
  refine Pl.qA_cv (c := (((UInt8.ofNat n).toNat : Nat) : Int)) Tryd.underlying5 (by kernel_rfl) (Pl.w8o (by omega)) trivial rfl rfl rfl rfl rfl ?_
  refine Pl.qA_go trivial rfl ?_
  refine Pl.qA_b (v := .int .u32 ((n / 256 : Nat) : Int)) (fun X => Pl.r_shr (n := n) (m := 8) rfl (by decide) X) trivial rfl rfl rfl rfl rfl rfl ?_
  refine Pl.qA_cv (c := (((UInt8.ofNat (n / 256)).toNat : Nat) : Int)) Tryd.underlying5 (by kernel_rfl) (Pl.w8o (by omega)) trivial rfl rfl rfl rfl rfl ?_
  refine Pl.qA_go trivial rfl ?_
  refine Pl.qA_b (v := .int .u32 ((n / 65536 : Nat) : Int)) (fun X => Pl.r_shr (n := n) (m := 16) rfl (by decide) X) trivial rfl rfl rfl rfl rfl rfl ?_
  refine Pl.qA_cv (c := (((UInt8.ofNat (n / 65536)).toNat : Nat) : Int)) Tryd.underlying5 (by kernel_rfl) (Pl.w8o (by omega)) trivial rfl rfl rfl rfl rfl ?_
  refine Pl.qA_go trivial rfl ?_
  refine Pl.qA_b (v := .int .u32 ((n / 16777216 : Nat) : Int)) (fun X => Pl.r_shr (n := n) (m := 24) rfl (by decide) X) trivial rfl rfl rfl rfl rfl rfl ?_
  refine Pl.qA_cv (c := (((UInt8.ofNat (n / 16777216)).toNat : Nat) : Int)) Tryd.underlying5 (by kernel_rfl) (Pl.w8o (by omega)) trivial rfl rfl rfl rfl rfl ?_
  refine Pl.qA_bs (e := 5) (n := 4) [.int .u8 (((UInt8.ofNat n).toNat : Nat) : Int), .int .u8 (((UInt8.ofNat (n / 256)).toNat : Nat) : Int), .int .u8 (((UInt8.ofNat (n / 65536)).toNat : Nat) : Int), .int .u8 (((UInt8.ofNat (n / 16777216)).toNat : Nat) : Int)] rfl rfl rfl rfl (by kernel_rfl) (fun Y hY => trivial) ?_
  intro N1 w1 hE1 hN_N1 k_N1_0
  have z_N1 := Pl.Cb.lt k_N1_0
  have sz1 := Pl.Ex.size hE1
  refine Pl.qA_go trivial rfl ?_
  refine Pl.pA_end ?_
  refine Pl.post_ret rfl rfl ⟨_, rfl, Gy.ofCb (bs := T.four n) k_N1_0 (Nat.le_of_eq hN_N1.symm) (by rw [T.four_len]; decide), hE1⟩
theorem rnumber_calls (w : World) (v : Value) (lo : Nat) (bs : T.Byt) (h : By w lo v bs) (h4 : 4 ≤ bs.length) :
    Calls Tryd.prog 40 #[v] w fun e w' => e = .returned (.int .u32 ((T.number bs : Nat) : Int)) ∧ Pl.Ex w w' := by
  obtain ⟨A, c, rfl, hnc, hcm⟩ := h.sh
  obtain ⟨ad, rfl, hc⟩ := h.all (by omega)
  refine Pl.calls_by (n := 25) (vs := [.slice (some ad) bs.length c]) Tryd.func40 rfl (by kernel_rfl) (by simp) ?_
  repeat refine Pl.V_seq ?_
  refine Pl.V_region (by kernel_rfl) ?_
  refine Pl.qA_go trivial rfl ?_
  refine Pl.pA_end ?_
  have hb0 := T.bt_lt bs 0
  have hb1 := T.bt_lt bs 1
  have hb2 := T.bt_lt bs 2
  have hb3 := T.bt_lt bs 3
  have hnum : T.bt bs 0 + 256 * T.bt bs 1 + 65536 * T.bt bs 2 + 16777216 * T.bt bs 3 = T.number bs := rfl
  have hc0 := hc 0 (by omega)
  have hc1 := hc 1 (by omega)
  have hc2 := hc 2 (by omega)
  have hc3 := hc 3 (by omega)
  clear hc
  generalize T.bt bs 0 = b0 at *
  generalize T.bt bs 1 = b1 at *
  generalize T.bt bs 2 = b2 at *
  generalize T.bt bs 3 = b3 at *
  repeat refine Pl.V_seq ?_
  refine Pl.V_draw (S := fun X => Pl.Ex w X) [(true, 0, 0), (true, 1, 1), (true, 2, 3), (true, 3, 7), (true, 4, 15), (true, 5, 31), (true, 6, 63), (true, 7, 127), (true, 8, 255), (true, 9, 511), (true, 10, 1023), (true, 11, 2047), (true, 12, 4095), (true, 13, 8191), (true, 14, 16383), (true, 15, 32767), (true, 16, 65535), (true, 17, 131071), (true, 18, 262143), (true, 19, 524287), (true, 20, 1048575), (true, 21, 2097151), (true, 22, 4194303)] fo Pl.post_panic (by kernel_rfl) (Pl.Ex.trans (Pl.Ex.refl _) (Pl.Ex.drew _)) ?_
  have hE1 := Pl.Ex.drew w
  generalize w.drew = w1 at *
  have sz1 := Pl.Ex.size hE1
  intro hS1
  refine Pl.qA_go hS1 rfl ?_
  refine Pl.qA_ix (s := 1) (j := 0) Tryd.underlying22 (by kernel_rfl) rfl (by omega) hS1 rfl rfl rfl rfl rfl rfl ?_
  refine Pl.qA_lc (v := .int .u8 ((b0 : Nat) : Int)) Tryd.underlying5 rfl (fun X hX => hc0 X hX) hS1 rfl rfl rfl rfl rfl ?_
  refine Pl.qA_cv (c := ((b0 : Nat) : Int)) Tryd.underlying33 (by kernel_rfl) (Pl.c_id (a := b0) rfl (Pl.w32 (by omega) (by omega))) hS1 rfl rfl rfl rfl rfl ?_
  refine Pl.qA_go hS1 rfl ?_
  refine Pl.qA_ix (s := 1) (j := 1) Tryd.underlying22 (by kernel_rfl) rfl (by omega) hS1 rfl rfl rfl rfl rfl rfl ?_
  refine Pl.qA_lc (v := .int .u8 ((b1 : Nat) : Int)) Tryd.underlying5 rfl (fun X hX => hc1 X hX) hS1 rfl rfl rfl rfl rfl ?_
  refine Pl.qA_cv (c := ((b1 : Nat) : Int)) Tryd.underlying33 (by kernel_rfl) (Pl.c_id (a := b1) rfl (Pl.w32 (by omega) (by omega))) hS1 rfl rfl rfl rfl rfl ?_
  refine Pl.qA_b (v := .int .u32 ((b1 * 256 : Nat) : Int)) (fun X => Pl.r_shl32 (n := b1) (m := 8) rfl (by decide) (by omega) (by omega) X) hS1 rfl rfl rfl rfl rfl rfl ?_
  refine Pl.qA_b (v := .int .u32 ((b0 + 256 * b1 : Nat) : Int)) (fun X => Pl.r_or32 (a := b0) (b := b1 * 256) (by omega) (by omega) rfl rfl (or8 (by omega)) X) hS1 rfl rfl rfl rfl rfl rfl ?_
  refine Pl.qA_go hS1 rfl ?_
  refine Pl.qA_ix (s := 1) (j := 2) Tryd.underlying22 (by kernel_rfl) rfl (by omega) hS1 rfl rfl rfl rfl rfl rfl ?_
  refine Pl.qA_lc (v := .int .u8 ((b2 : Nat) : Int)) Tryd.underlying5 rfl (fun X hX => hc2 X hX) hS1 rfl rfl rfl rfl rfl ?_
  refine Pl.qA_cv (c := ((b2 : Nat) : Int)) Tryd.underlying33 (by kernel_rfl) (Pl.c_id (a := b2) rfl (Pl.w32 (by omega) (by omega))) hS1 rfl rfl rfl rfl rfl ?_
  refine Pl.qA_b (v := .int .u32 ((b2 * 65536 : Nat) : Int)) (fun X => Pl.r_shl32 (n := b2) (m := 16) rfl (by decide) (by omega) (by omega) X) hS1 rfl rfl rfl rfl rfl rfl ?_
  refine Pl.qA_b (v := .int .u32 ((b0 + 256 * b1 + 65536 * b2 : Nat) : Int)) (fun X => Pl.r_or32 (a := b0 + 256 * b1) (b := b2 * 65536) (by omega) (by omega) rfl rfl (or16 (by omega)) X) hS1 rfl rfl rfl rfl rfl rfl ?_
  refine Pl.qA_go hS1 rfl ?_
  refine Pl.qA_ix (s := 1) (j := 3) Tryd.underlying22 (by kernel_rfl) rfl (by omega) hS1 rfl rfl rfl rfl rfl rfl ?_
  refine Pl.qA_lc (v := .int .u8 ((b3 : Nat) : Int)) Tryd.underlying5 rfl (fun X hX => hc3 X hX) hS1 rfl rfl rfl rfl rfl ?_
  refine Pl.qA_cv (c := ((b3 : Nat) : Int)) Tryd.underlying33 (by kernel_rfl) (Pl.c_id (a := b3) rfl (Pl.w32 (by omega) (by omega))) hS1 rfl rfl rfl rfl rfl ?_
  refine Pl.qA_b (v := .int .u32 ((b3 * 16777216 : Nat) : Int)) (fun X => Pl.r_shl32 (n := b3) (m := 24) rfl (by decide) (by omega) (by omega) X) hS1 rfl rfl rfl rfl rfl rfl ?_
  refine Pl.qA_b (v := .int .u32 ((b0 + 256 * b1 + 65536 * b2 + 16777216 * b3 : Nat) : Int)) (fun X => Pl.r_or32 (a := b0 + 256 * b1 + 65536 * b2) (b := b3 * 16777216) (by omega) (by omega) rfl rfl (or24 (by omega)) X) hS1 rfl rfl rfl rfl rfl rfl ?_
  refine Pl.qA_go hS1 rfl ?_
  refine Pl.pA_end ?_
  rw [← hnum]
  exact Pl.post_ret rfl rfl ⟨rfl, hE1⟩
theorem rmay_calls (w : World) (e0 : T.Ent) :
    Calls Tryd.prog 23 #[.agg #[.string (mkS e0.1), .string (mkS e0.2)]] w fun e w' => e = .returned (.bool (decide (T.May e0))) ∧ Pl.Ex w w' := by
  have hs1 := mkS_size e0.1
  have hs2 := mkS_size e0.2
  refine Pl.calls_by (n := 19) (vs := [.agg #[.string (mkS e0.1), .string (mkS e0.2)]]) Tryd.func23 rfl (by kernel_rfl) (by simp) ?_
  repeat refine Pl.V_seq ?_
  refine Pl.V_region (by kernel_rfl) ?_
  refine Pl.qA_bx (cs := [.string (mkS e0.1), .string (mkS e0.2)]) rfl rfl rfl rfl rfl rfl (fun Y hY => trivial) ?_
  intro N1 w1 hE1 hN_N1 k_N1_0
  have z_N1 := Pl.Cb.lt k_N1_0
  have sz1 := Pl.Ex.size hE1
  refine Pl.qA_go trivial rfl ?_
  refine Pl.pA_end ?_
  by_cases h1 : 1 ≤ e0.1.length
  · by_cases h2 : e0.1.length ≤ 20
    · by_cases h3 : e0.2.length ≤ 20000
      · repeat refine Pl.V_seq ?_
        refine Pl.V_region (by kernel_rfl) ?_
        refine Pl.qA_ev (.pointer (some ⟨N1, 0, none⟩)) trivial rfl rfl rfl rfl (fun X => by kernel_rfl) ?_
        refine Pl.qA_lcw (v := .string (mkS e0.1)) Tryd.underlying9 rfl (Pl.Cb.at (j := 0) k_N1_0 rfl) trivial rfl rfl rfl rfl rfl ?_
        refine Pl.qA_lt Tryd.underlying9 trivial rfl rfl rfl rfl rfl ?_
        refine Pl.qA_b (v := .bool true) (fun X => Pl.r_geq (decide_eq_true (by omega)) X) trivial rfl rfl rfl rfl rfl rfl ?_
        refine Pl.qA_go trivial rfl ?_
        refine Pl.qA_ev (.pointer (some ⟨N1, 0, none⟩)) trivial rfl rfl rfl rfl (fun X => by kernel_rfl) ?_
        refine Pl.qA_lcw (v := .string (mkS e0.1)) Tryd.underlying9 rfl (Pl.Cb.at (j := 0) k_N1_0 rfl) trivial rfl rfl rfl rfl rfl ?_
        refine Pl.qA_lt Tryd.underlying9 trivial rfl rfl rfl rfl rfl ?_
        refine Pl.qA_b (v := .bool true) (fun X => Pl.r_leq (decide_eq_true (by omega)) X) trivial rfl rfl rfl rfl rfl rfl ?_
        refine Pl.qA_go trivial rfl ?_
        refine Pl.qA_ev (.pointer (some ⟨N1, 1, none⟩)) trivial rfl rfl rfl rfl (fun X => by kernel_rfl) ?_
        refine Pl.qA_lcw (v := .string (mkS e0.2)) Tryd.underlying9 rfl (Pl.Cb.at (j := 1) k_N1_0 rfl) trivial rfl rfl rfl rfl rfl ?_
        refine Pl.qA_lt Tryd.underlying9 trivial rfl rfl rfl rfl rfl ?_
        refine Pl.qA_b (v := .bool true) (fun X => Pl.r_leq (decide_eq_true (by omega)) X) trivial rfl rfl rfl rfl rfl rfl ?_
        refine Pl.qA_go trivial rfl ?_
        refine Pl.pA_end ?_
        rw [show decide (T.May e0) = true from decide_eq_true ⟨h1, h2, h3⟩]
        exact Pl.post_ret rfl rfl ⟨rfl, hE1⟩
      · repeat refine Pl.V_seq ?_
        refine Pl.V_region (by kernel_rfl) ?_
        refine Pl.qA_ev (.pointer (some ⟨N1, 0, none⟩)) trivial rfl rfl rfl rfl (fun X => by kernel_rfl) ?_
        refine Pl.qA_lcw (v := .string (mkS e0.1)) Tryd.underlying9 rfl (Pl.Cb.at (j := 0) k_N1_0 rfl) trivial rfl rfl rfl rfl rfl ?_
        refine Pl.qA_lt Tryd.underlying9 trivial rfl rfl rfl rfl rfl ?_
        refine Pl.qA_b (v := .bool true) (fun X => Pl.r_geq (decide_eq_true (by omega)) X) trivial rfl rfl rfl rfl rfl rfl ?_
        refine Pl.qA_go trivial rfl ?_
        refine Pl.qA_ev (.pointer (some ⟨N1, 0, none⟩)) trivial rfl rfl rfl rfl (fun X => by kernel_rfl) ?_
        refine Pl.qA_lcw (v := .string (mkS e0.1)) Tryd.underlying9 rfl (Pl.Cb.at (j := 0) k_N1_0 rfl) trivial rfl rfl rfl rfl rfl ?_
        refine Pl.qA_lt Tryd.underlying9 trivial rfl rfl rfl rfl rfl ?_
        refine Pl.qA_b (v := .bool true) (fun X => Pl.r_leq (decide_eq_true (by omega)) X) trivial rfl rfl rfl rfl rfl rfl ?_
        refine Pl.qA_go trivial rfl ?_
        refine Pl.qA_ev (.pointer (some ⟨N1, 1, none⟩)) trivial rfl rfl rfl rfl (fun X => by kernel_rfl) ?_
        refine Pl.qA_lcw (v := .string (mkS e0.2)) Tryd.underlying9 rfl (Pl.Cb.at (j := 1) k_N1_0 rfl) trivial rfl rfl rfl rfl rfl ?_
        refine Pl.qA_lt Tryd.underlying9 trivial rfl rfl rfl rfl rfl ?_
        refine Pl.qA_b (v := .bool false) (fun X => Pl.r_leq (decide_eq_false (by omega)) X) trivial rfl rfl rfl rfl rfl rfl ?_
        refine Pl.qA_go trivial rfl ?_
        refine Pl.pA_end ?_
        rw [show decide (T.May e0) = false from decide_eq_false (fun hm => h3 hm.2.2)]
        exact Pl.post_ret rfl rfl ⟨rfl, hE1⟩
    · repeat refine Pl.V_seq ?_
      refine Pl.V_region (by kernel_rfl) ?_
      refine Pl.qA_ev (.pointer (some ⟨N1, 0, none⟩)) trivial rfl rfl rfl rfl (fun X => by kernel_rfl) ?_
      refine Pl.qA_lcw (v := .string (mkS e0.1)) Tryd.underlying9 rfl (Pl.Cb.at (j := 0) k_N1_0 rfl) trivial rfl rfl rfl rfl rfl ?_
      refine Pl.qA_lt Tryd.underlying9 trivial rfl rfl rfl rfl rfl ?_
      refine Pl.qA_b (v := .bool true) (fun X => Pl.r_geq (decide_eq_true (by omega)) X) trivial rfl rfl rfl rfl rfl rfl ?_
      refine Pl.qA_go trivial rfl ?_
      refine Pl.qA_ev (.pointer (some ⟨N1, 0, none⟩)) trivial rfl rfl rfl rfl (fun X => by kernel_rfl) ?_
      refine Pl.qA_lcw (v := .string (mkS e0.1)) Tryd.underlying9 rfl (Pl.Cb.at (j := 0) k_N1_0 rfl) trivial rfl rfl rfl rfl rfl ?_
      refine Pl.qA_lt Tryd.underlying9 trivial rfl rfl rfl rfl rfl ?_
      refine Pl.qA_b (v := .bool false) (fun X => Pl.r_leq (decide_eq_false (by omega)) X) trivial rfl rfl rfl rfl rfl rfl ?_
      refine Pl.qA_go trivial rfl ?_
      refine Pl.pA_end ?_
      rw [show decide (T.May e0) = false from decide_eq_false (fun hm => h2 hm.2.1)]
      exact Pl.post_ret rfl rfl ⟨rfl, hE1⟩
  · repeat refine Pl.V_seq ?_
    refine Pl.V_region (by kernel_rfl) ?_
    refine Pl.qA_ev (.pointer (some ⟨N1, 0, none⟩)) trivial rfl rfl rfl rfl (fun X => by kernel_rfl) ?_
    refine Pl.qA_lcw (v := .string (mkS e0.1)) Tryd.underlying9 rfl (Pl.Cb.at (j := 0) k_N1_0 rfl) trivial rfl rfl rfl rfl rfl ?_
    refine Pl.qA_lt Tryd.underlying9 trivial rfl rfl rfl rfl rfl ?_
    refine Pl.qA_b (v := .bool false) (fun X => Pl.r_geq (decide_eq_false (by omega)) X) trivial rfl rfl rfl rfl rfl rfl ?_
    refine Pl.qA_go trivial rfl ?_
    refine Pl.pA_end ?_
    rw [show decide (T.May e0) = false from decide_eq_false (fun hm => h1 hm.1)]
    exact Pl.post_ret rfl rfl ⟨rfl, hE1⟩
end Go.Proofs.YtmioaeaobefphaaDoor
