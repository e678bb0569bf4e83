/- The document appends a record. -/
import Derived.Test.YtmioaeaobefphaaDoorBai

namespace Go.Proofs.YtmioaeaobefphaaDoor
open Go.RowKit 
set_option linter.unusedVariables false
set_option linter.unusedSimpArgs false
set_option maxRecDepth 100000
set_option maxHeartbeats 4000000
theorem rappend_yes (w : World) {v : Value} {lo : Nat} {bs : T.Byt} (e0 : T.Ent) (h : By w lo v bs) (hm : T.May e0) (hb : bs.length ≤ 10000000) :
    Calls Tryd.prog 13 #[v, .agg #[.string (mkS e0.1), .string (mkS e0.2)]] w fun e w' => ∃ v', e = .returned (.tuple #[v', .int .i64 0]) ∧ Gy w' w.heap.size v' (bs ++ T.recd e0) ∧ Pl.Ex w w' := by
  obtain ⟨A, c, rfl, hn, hmc⟩ := h.sh
  have hs1 := mkS_size e0.1
  have hs2 := mkS_size e0.2
  refine Pl.calls_by (n := 49) (vs := [.slice A bs.length c, .agg #[.string (mkS e0.1), .string (mkS e0.2)]]) Tryd.func13 rfl (by kernel_rfl) (by simp) ?_
  repeat refine Pl.V_seq ?_
  refine Pl.V_region (by kernel_rfl) ?_
  refine Pl.qA_bx (cs := [.string (mkS e0.1), .string (mkS e0.2)]) rfl rfl rfl rfl rfl rfl (fun Y hY => trivial) ?_
  intro N1 w1 hE1 hN_N1 k_N1_0
  have z_N1 := Pl.Cb.lt k_N1_0
  have sz1 := Pl.Ex.size hE1
  refine Pl.qA_go trivial rfl ?_
  refine Pl.pA_end ?_
  repeat refine Pl.V_seq ?_
  refine Pl.V_region (by kernel_rfl) ?_
  refine Pl.qA_lrw (part := [.string (mkS e0.1), .string (mkS e0.2)]) k_N1_0 rfl Tryd.underlying24 rfl (by kernel_rfl) trivial rfl rfl rfl rfl rfl ?_
  refine Pl.pA_call rfl rfl rfl rfl rfl (fun u X => Pl.enters Tryd.func23 (by kernel_rfl) rfl u X) ?_
  refine Calls.mono (rmay_yes _ hm) ?_
  rintro e w2 ⟨rfl, hE2⟩
  have sz2 := Pl.Ex.size hE2
  refine ⟨_, rfl, trivial, ?_⟩
  refine Pl.qA_un (v := .bool false) trivial rfl rfl rfl rfl rfl (fun X => rfl) ?_
  refine Pl.pA_end ?_
  repeat refine Pl.V_seq ?_
  refine Pl.V_false rfl ?_
  repeat refine Pl.V_seq ?_
  refine Pl.V_skip ?_
  obtain ⟨m1, m2, m3⟩ := hm
  repeat refine Pl.V_seq ?_
  refine Pl.V_region (by kernel_rfl) ?_
  refine Pl.qA_ev (.pointer (some ⟨N1, 0, none⟩)) trivial rfl rfl rfl rfl (fun X => by kernel_rfl) ?_
  refine Pl.qA_lcw (v := .string (mkS e0.1)) Tryd.underlying9 rfl (Pl.Cb.at (j := 0) (Pl.Cb.ex k_N1_0 hE2) rfl) trivial rfl rfl rfl rfl rfl ?_
  refine Pl.qA_lt Tryd.underlying9 trivial rfl rfl rfl rfl rfl ?_
  refine Pl.qA_b (v := .int .i64 (((1 + e0.1.length) : Nat) : Int)) (fun X => Pl.r_add (Pl.a64 (a := 1) (b := e0.1.length) rfl rfl (by omega)) X) trivial rfl rfl rfl rfl rfl rfl ?_
  refine Pl.qA_ev (.pointer (some ⟨N1, 1, none⟩)) trivial rfl rfl rfl rfl (fun X => by kernel_rfl) ?_
  refine Pl.qA_lcw (v := .string (mkS e0.2)) Tryd.underlying9 rfl (Pl.Cb.at (j := 1) (Pl.Cb.ex k_N1_0 hE2) rfl) trivial rfl rfl rfl rfl rfl ?_
  refine Pl.qA_lt Tryd.underlying9 trivial rfl rfl rfl rfl rfl ?_
  refine Pl.qA_b (v := .int .i64 ((((1 + e0.1.length) + e0.2.length) : Nat) : Int)) (fun X => Pl.r_add (Pl.a64 (a := (1 + e0.1.length)) (b := e0.2.length) rfl rfl (by omega)) X) trivial rfl rfl rfl rfl rfl rfl ?_
  refine Pl.qA_cv (c := ((((1 + e0.1.length) + e0.2.length) : Nat) : Int)) Tryd.underlying33 (by kernel_rfl) (Pl.c_id (a := ((1 + e0.1.length) + e0.2.length)) rfl (Pl.w32 (by omega) (by omega))) trivial rfl rfl rfl rfl rfl ?_
  refine Pl.pA_call rfl rfl rfl rfl rfl (fun u X => Pl.enters Tryd.func27 (by kernel_rfl) rfl u X) ?_
  refine Calls.mono (rfour_calls _ (1 + e0.1.length + e0.2.length) (by omega)) ?_
  rintro e w3 ⟨v0, rfl, g0, hE3⟩
  have sz3 := Pl.Ex.size hE3
  refine ⟨_, rfl, trivial, ?_⟩
  refine Pl.qA_go trivial rfl ?_
  refine Pl.pA_end ?_
  have l0 := T.four_len (1 + e0.1.length + e0.2.length)
  have ls : [UInt8.ofNat e0.1.length].length = 1 := rfl
  repeat refine Pl.V_seq ?_
  refine Pl.V_region (by kernel_rfl) ?_
  refine Pl.qA_go trivial rfl ?_
  refine Pl.qA_ev (.pointer (some ⟨N1, 0, none⟩)) trivial rfl rfl rfl rfl (fun X => by kernel_rfl) ?_
  refine Pl.qA_lcw (v := .string (mkS e0.1)) Tryd.underlying9 rfl (Pl.Cb.at (j := 0) (Pl.Cb.ex k_N1_0 (Pl.Ex.trans hE2 hE3)) rfl) trivial rfl rfl rfl rfl rfl ?_
  refine Pl.qA_lt Tryd.underlying9 trivial rfl rfl rfl rfl rfl ?_
  refine Pl.qA_cv (c := (((UInt8.ofNat e0.1.length).toNat : Nat) : Int)) Tryd.underlying5 (by kernel_rfl) (Pl.w8o rfl) trivial rfl rfl rfl rfl rfl ?_
  refine Pl.qA_bs (e := 5) (n := 1) [.int .u8 (((UInt8.ofNat e0.1.length).toNat : Nat) : Int)] rfl rfl rfl rfl (by kernel_rfl) (fun Y hY => trivial) ?_
  intro N2 w4 hE4 hN_N2 k_N2_0
  have z_N2 := Pl.Cb.lt k_N2_0
  have sz4 := Pl.Ex.size hE4
  refine Pl.qA_gr (bytes := 1) (z := .int .u8 0) (tx := 22) (news := cB ([UInt8.ofNat e0.1.length])) (Pl.Gr.ex g0 hE4) (By.src (By.ofCb (bs := [UInt8.ofNat e0.1.length]) k_N2_0 (by simp))) Tryd.underlying22 (by kernel_rfl) rfl (fun _ _ => trivial) (fun _ _ => trivial) (by omega) (by decide) (Pl.Ex.size (Pl.Ex.trans hE3 hE4)) rfl rfl rfl rfl rfl rfl (fun _ _ => trivial) ?_
  intro v3 w5 g3 hg3
  have hE5 := Pl.Ex.grown (Pl.Ex.trans hE3 hE4) hg3 (fun k hk => (Pl.Gr.lies (Pl.Gr.ex g0 hE4) k hk).1)
  replace g3 := Gy.app g3
  refine Pl.qA_go trivial rfl ?_
  refine Pl.pA_end ?_
  obtain ⟨b1, hb1⟩ : ∃ b, b = (T.four (1 + e0.1.length + e0.2.length) ++ [UInt8.ofNat e0.1.length]) := ⟨_, rfl⟩
  rw [← hb1] at g3
  have lb1 : b1.length = _ := congrArg List.length hb1
  rw [List.length_append] at lb1
  repeat refine Pl.V_seq ?_
  refine Pl.V_region (by kernel_rfl) ?_
  refine Pl.qA_go trivial rfl ?_
  refine Pl.qA_ev (.pointer (some ⟨N1, 0, none⟩)) trivial rfl rfl rfl rfl (fun X => by kernel_rfl) ?_
  refine Pl.qA_lcw (v := .string (mkS e0.1)) Tryd.underlying9 rfl (Pl.Cb.at (j := 0) (Pl.Cb.ex k_N1_0 (Pl.Ex.trans hE2 hE5)) rfl) trivial rfl rfl rfl rfl rfl ?_
  refine qA_ts (bs := e0.1) (by omega) rfl rfl rfl rfl rfl (fun _ _ => trivial) ?_
  intro x2 w6 hE6 y2
  refine Pl.qA_gr (bytes := 1) (z := .int .u8 0) (tx := 22) (news := cB e0.1) (Pl.Gr.ex g3 hE6) (By.src y2) Tryd.underlying22 (by kernel_rfl) rfl (fun _ _ => trivial) (fun _ _ => trivial) (by omega) (by decide) (Pl.Ex.size (Pl.Ex.trans hE5 hE6)) rfl rfl rfl rfl rfl rfl (fun _ _ => trivial) ?_
  intro v4 w7 g4 hg4
  have hE7 := Pl.Ex.grown (Pl.Ex.trans hE5 hE6) hg4 (fun k hk => (Pl.Gr.lies (Pl.Gr.ex g3 hE6) k hk).1)
  replace g4 := Gy.app g4
  refine Pl.qA_go trivial rfl ?_
  refine Pl.pA_end ?_
  obtain ⟨b2, hb2⟩ : ∃ b, b = (b1 ++ e0.1) := ⟨_, rfl⟩
  rw [← hb2] at g4
  have lb2 : b2.length = _ := congrArg List.length hb2
  rw [List.length_append] at lb2
  repeat refine Pl.V_seq ?_
  refine Pl.V_region (by kernel_rfl) ?_
  refine Pl.qA_go trivial rfl ?_
  refine Pl.qA_ev (.pointer (some ⟨N1, 1, none⟩)) trivial rfl rfl rfl rfl (fun X => by kernel_rfl) ?_
  refine Pl.qA_lcw (v := .string (mkS e0.2)) Tryd.underlying9 rfl (Pl.Cb.at (j := 1) (Pl.Cb.ex k_N1_0 (Pl.Ex.trans hE2 hE7)) rfl) trivial rfl rfl rfl rfl rfl ?_
  refine qA_ts (bs := e0.2) (by omega) rfl rfl rfl rfl rfl (fun _ _ => trivial) ?_
  intro x3 w8 hE8 y3
  refine Pl.qA_gr (bytes := 1) (z := .int .u8 0) (tx := 22) (news := cB e0.2) (Pl.Gr.ex g4 hE8) (By.src y3) Tryd.underlying22 (by kernel_rfl) rfl (fun _ _ => trivial) (fun _ _ => trivial) (by omega) (by decide) (Pl.Ex.size (Pl.Ex.trans hE7 hE8)) rfl rfl rfl rfl rfl rfl (fun _ _ => trivial) ?_
  intro v5 w9 g5 hg5
  have hE9 := Pl.Ex.grown (Pl.Ex.trans hE7 hE8) hg5 (fun k hk => (Pl.Gr.lies (Pl.Gr.ex g4 hE8) k hk).1)
  replace g5 := Gy.app g5
  refine Pl.qA_go trivial rfl ?_
  refine Pl.pA_end ?_
  obtain ⟨b3, hb3⟩ : ∃ b, b = (b2 ++ e0.2) := ⟨_, rfl⟩
  rw [← hb3] at g5
  have lb3 : b3.length = _ := congrArg List.length hb3
  rw [List.length_append] at lb3
  have hb3 : b3 = T.body e0 := by rw [hb3, hb2, hb1]; simp [T.body]
  repeat refine Pl.V_seq ?_
  refine Pl.V_region (by kernel_rfl) ?_
  refine Pl.qA_go trivial rfl ?_
  refine Pl.pA_call rfl rfl rfl rfl rfl (fun u X => Pl.enters Tryd.func18 (by kernel_rfl) rfl u X) ?_
  refine Calls.mono (rsumE _ (Gy.by g5 (by omega))) ?_
  rintro e w10 ⟨rfl, hE10⟩
  have sz10 := Pl.Ex.size hE10
  refine ⟨_, rfl, trivial, ?_⟩
  refine Pl.pA_call rfl rfl rfl rfl rfl (fun u X => Pl.enters Tryd.func27 (by kernel_rfl) rfl u X) ?_
  refine Calls.mono (rfour_calls _ (T.csum b3) (T.csum_lt b3)) ?_
  rintro e w11 ⟨v9, rfl, g9, hE11⟩
  have sz11 := Pl.Ex.size hE11
  refine ⟨_, rfl, trivial, ?_⟩
  have l9 := T.four_len (T.csum b3)
  refine Pl.qA_gr (bytes := 1) (z := .int .u8 0) (tx := 22) (news := cB ((T.four (T.csum b3)))) (Pl.Gr.ex g5 (Pl.Ex.trans hE10 hE11)) (By.src (Gy.by g9 (by omega))) Tryd.underlying22 (by kernel_rfl) rfl (fun _ _ => trivial) (fun _ _ => trivial) (by omega) (by decide) (Pl.Ex.size (Pl.Ex.trans hE9 (Pl.Ex.trans hE10 hE11))) rfl rfl rfl rfl rfl rfl (fun _ _ => trivial) ?_
  intro v6 w12 g6 hg6
  have hE12 := Pl.Ex.grown (Pl.Ex.trans hE9 (Pl.Ex.trans hE10 hE11)) hg6 (fun k hk => (Pl.Gr.lies (Pl.Gr.ex g5 (Pl.Ex.trans hE10 hE11)) k hk).1)
  replace g6 := Gy.app g6
  refine Pl.qA_go trivial rfl ?_
  refine Pl.pA_end ?_
  obtain ⟨b4, hb4⟩ : ∃ b, b = (b3 ++ (T.four (T.csum b3))) := ⟨_, rfl⟩
  rw [← hb4] at g6
  have lb4 : b4.length = _ := congrArg List.length hb4
  rw [List.length_append] at lb4
  have e1 : b4 = T.recd e0 := by rw [hb4, hb3]; rfl
  repeat refine Pl.V_seq ?_
  refine Pl.V_region (by kernel_rfl) ?_
  refine Pl.qA_bs (e := 5) (n := 0) [] rfl rfl rfl rfl (by kernel_rfl) (fun Y hY => trivial) ?_
  intro N7 w13 hE13 hN_N7 k_N7_0
  have z_N7 := Pl.Cb.lt k_N7_0
  have sz13 := Pl.Ex.size hE13
  refine Pl.qA_go trivial rfl ?_
  have g20 := Gy.nilCb (base := w12.heap.size) k_N7_0 (Nat.le_of_eq hN_N7.symm)
  have l20 : ([] : T.Byt).length = 0 := rfl
  refine Pl.qA_gr (bytes := 1) (z := .int .u8 0) (tx := 22) (news := cB bs) g20 (By.src (By.ex h (Pl.Ex.trans hE1 (Pl.Ex.trans hE2 (Pl.Ex.trans hE12 hE13))))) Tryd.underlying22 (by kernel_rfl) rfl (fun _ _ => trivial) (fun _ _ => trivial) (by omega) (by decide) (Pl.Ex.size hE13) rfl rfl rfl rfl rfl rfl (fun _ _ => trivial) ?_
  intro v8 w14 g8 hg8
  have hE14 := Pl.Ex.grown hE13 hg8 (fun k hk => (Pl.Gr.lies g20 k hk).1)
  replace g8 := Gy.app g8
  refine Pl.qA_go trivial rfl ?_
  refine Pl.pA_end ?_
  obtain ⟨d1, hd1⟩ : ∃ b, b = (([] : T.Byt) ++ bs) := ⟨_, rfl⟩
  rw [← hd1] at g8
  have ld1 : d1.length = _ := congrArg List.length hd1
  rw [List.length_append] at ld1
  repeat refine Pl.V_seq ?_
  refine Pl.V_region (by kernel_rfl) ?_
  refine Pl.qA_go trivial rfl ?_
  refine Pl.qA_gr (bytes := 1) (z := .int .u8 0) (tx := 22) (news := cB b4) g8 (By.src (Gy.by (Pl.Gr.ex g6 hE14) (by omega))) Tryd.underlying22 (by kernel_rfl) rfl (fun _ _ => trivial) (fun _ _ => trivial) (by omega) (by decide) (Pl.Ex.size hE14) rfl rfl rfl rfl rfl rfl (fun _ _ => trivial) ?_
  intro v9 w15 g9 hg9
  have hE15 := Pl.Ex.grown hE14 hg9 (fun k hk => (Pl.Gr.lies g8 k hk).1)
  replace g9 := Gy.app g9
  refine Pl.qA_go trivial rfl ?_
  refine Pl.pA_end ?_
  have e2 : d1 ++ b4 = bs ++ T.recd e0 := by rw [hd1, e1]; rfl
  rw [e2] at g9
  exact Pl.post_ret2 rfl rfl rfl ⟨_, rfl, Pl.Gr.mono g9 (Pl.Ex.size (Pl.Ex.trans hE1 (Pl.Ex.trans hE2 hE12))), (Pl.Ex.trans hE1 (Pl.Ex.trans hE2 (Pl.Ex.trans hE12 hE15)))⟩
theorem rappend_no (w : World) {v : Value} {lo : Nat} {bs : T.Byt} (e0 : T.Ent) (h : By w lo v bs) (hm : ¬ T.May e0) :
    Calls Tryd.prog 13 #[v, .agg #[.string (mkS e0.1), .string (mkS e0.2)]] w fun e w' => e = .returned (.tuple #[.slice none 0 0, .int .i64 1]) ∧ Pl.Ex w w' := by
  obtain ⟨A, c, rfl, hn, hmc⟩ := h.sh
  have hs1 := mkS_size e0.1
  have hs2 := mkS_size e0.2
  refine Pl.calls_by (n := 49) (vs := [.slice A bs.length c, .agg #[.string (mkS e0.1), .string (mkS e0.2)]]) Tryd.func13 rfl (by kernel_rfl) (by simp) ?_
  repeat refine Pl.V_seq ?_
  refine Pl.V_region (by kernel_rfl) ?_
  refine Pl.qA_bx (cs := [.string (mkS e0.1), .string (mkS e0.2)]) rfl rfl rfl rfl rfl rfl (fun Y hY => trivial) ?_
  intro N1 w1 hE1 hN_N1 k_N1_0
  have z_N1 := Pl.Cb.lt k_N1_0
  have sz1 := Pl.Ex.size hE1
  refine Pl.qA_go trivial rfl ?_
  refine Pl.pA_end ?_
  repeat refine Pl.V_seq ?_
  refine Pl.V_region (by kernel_rfl) ?_
  refine Pl.qA_lrw (part := [.string (mkS e0.1), .string (mkS e0.2)]) k_N1_0 rfl Tryd.underlying24 rfl (by kernel_rfl) trivial rfl rfl rfl rfl rfl ?_
  refine Pl.pA_call rfl rfl rfl rfl rfl (fun u X => Pl.enters Tryd.func23 (by kernel_rfl) rfl u X) ?_
  refine Calls.mono (rmay_no _ hm) ?_
  rintro e w2 ⟨rfl, hE2⟩
  have sz2 := Pl.Ex.size hE2
  refine ⟨_, rfl, trivial, ?_⟩
  refine Pl.qA_un (v := .bool true) trivial rfl rfl rfl rfl rfl (fun X => rfl) ?_
  refine Pl.pA_end ?_
  repeat refine Pl.V_seq ?_
  refine Pl.V_true rfl ?_
  repeat refine Pl.V_seq ?_
  refine Pl.V_region (by kernel_rfl) ?_
  refine Pl.qA_go trivial rfl ?_
  refine Pl.pA_end ?_
  exact Pl.post_ret2 rfl rfl rfl ⟨rfl, (Pl.Ex.trans hE1 hE2)⟩
end Go.Proofs.YtmioaeaobefphaaDoor
/- The entry of a payload. -/
namespace Go.Proofs.YtmioaeaobefphaaDoor
open Go.RowKit 
set_option linter.unusedVariables false
set_option linter.unusedSimpArgs false
set_option maxRecDepth 100000
set_option maxHeartbeats 4000000
def T.ent : T.Byt → Option T.Ent
  | [] => none
  | k :: r => if r.length < k.toNat then none else if T.May (r.take k.toNat, r.drop k.toNat) then some (r.take k.toNat, r.drop k.toNat) else none
theorem T.one_none {b : T.Byt} (h : b.length < 8 ∨ b.length - 8 < T.number b) : T.one b = none := by unfold T.one; rw [if_pos h]
theorem T.one_sum {b : T.Byt} (h : ¬ (b.length < 8 ∨ b.length - 8 < T.number b)) (hs : T.csum (b.take (T.number b + 4)) ≠ T.number (b.drop (T.number b + 4))) : T.one b = some none := by unfold T.one; rw [if_neg h, if_pos hs]
theorem T.one_ent {b : T.Byt} (h : ¬ (b.length < 8 ∨ b.length - 8 < T.number b)) (hs : T.csum (b.take (T.number b + 4)) = T.number (b.drop (T.number b + 4))) : T.one b = some ((T.ent ((b.take (T.number b + 4)).drop 4)).map fun e => (e, T.number b + 8)) := by
  unfold T.one
  rw [if_neg h, if_neg (fun hn => hn hs)]
  generalize (b.take (T.number b + 4)).drop 4 = p
  cases p with
  | nil => rfl
  | cons k r =>
    simp only [T.ent]
    split
    · rfl
    · split <;> rfl
theorem T.ent_none {p : T.Byt} (h : p.length ≤ T.bt p 0) : T.ent p = none := by
  cases p with
  | nil => rfl
  | cons k r =>
    have hk : T.bt (k :: r) 0 = k.toNat := rfl
    rw [hk] at h
    simp only [T.ent]
    rw [if_pos (by simp at h; omega)]
theorem T.ent_some {p : T.Byt} (h : T.bt p 0 < p.length) : T.ent p = if T.May ((p.drop 1).take (T.bt p 0), p.drop (1 + T.bt p 0)) then some ((p.drop 1).take (T.bt p 0), p.drop (1 + T.bt p 0)) else none := by
  cases p with
  | nil => simp at h
  | cons k r =>
    have hk : T.bt (k :: r) 0 = k.toNat := rfl
    rw [hk] at h ⊢
    have e : (k :: r).drop (1 + k.toNat) = r.drop k.toNat := by rw [Nat.add_comm]; rfl
    simp only [T.ent]
    rw [if_neg (by simp at h; omega), e]
    rfl
/-- What a payload tells, as the program hands it back. -/
def EntR (p : T.Byt) (n t : ByteArray) (b : Bool) : Prop := match T.ent p with
  | some x => n = mkS x.1 ∧ t = mkS x.2 ∧ b = true
  | none => b = false
theorem EntR.no {p : T.Byt} {n t : ByteArray} (h : T.ent p = none) : EntR p n t false := by unfold EntR; rw [h]
theorem EntR.may {p : T.Byt} (h : T.bt p 0 < p.length) : EntR p (mkS ((p.drop 1).take (T.bt p 0))) (mkS (p.drop (1 + T.bt p 0))) (decide (T.May ((p.drop 1).take (T.bt p 0), p.drop (1 + T.bt p 0)))) := by
  unfold EntR
  rw [T.ent_some h]
  by_cases hm : T.May ((p.drop 1).take (T.bt p 0), p.drop (1 + T.bt p 0))
  · rw [if_pos hm]; exact ⟨rfl, rfl, decide_eq_true hm⟩
  · rw [if_neg hm]; exact decide_eq_false hm
theorem By.rest {w : World} {lo n c l : Nat} {A : Option Addr} {bs : T.Byt} (h : By w lo (.slice A n c) bs) (h1 : l ≤ bs.length) : By w lo (Pl.cutA A l bs.length c 1) (bs.drop l) := by
  have := h.cut h1 (Nat.le_refl _)
  rwa [List.take_of_length_le (by rw [List.length_drop]; omega)] at this
theorem By.head {w : World} {lo n c k : Nat} {A : Option Addr} {bs : T.Byt} (h : By w lo (.slice A n c) bs) (h1 : k ≤ bs.length) : By w lo (.slice A k c) (bs.take k) := by
  have := h.cut (Nat.zero_le k) h1
  rwa [cutA_zero, List.drop_zero, Nat.sub_zero] at this
theorem entry_calls (w : World) {v : Value} {lo : Nat} {p : T.Byt} (h : By w lo v p) :
    Calls Tryd.prog 42 #[v] w fun e w' => ∃ n t b, e = .returned (.tuple #[.agg #[.string n, .string t], .bool b]) ∧ EntR p n t b ∧ Pl.Ex w w' := by
  obtain ⟨A, c, rfl, hn, hc⟩ := h.sh
  refine Pl.calls_by (n := 36) (vs := [.slice A p.length c]) Tryd.func42 rfl (by kernel_rfl) (by simp) ?_
  repeat refine Pl.V_seq ?_
  refine Pl.V_region (by kernel_rfl) ?_
  refine Pl.qA_al (z := .agg #[.string ⟨#[]⟩, .string ⟨#[]⟩]) (by kernel_rfl) rfl rfl rfl rfl (fun Y hY => trivial) ?_
  intro N1 w1 hE1 hN_N1 k_N1_0
  have z_N1 := Pl.Cb.lt k_N1_0
  have sz1 := Pl.Ex.size hE1
  replace k_N1_0 : Pl.Cb w1 N1 24 [.string ⟨#[]⟩, .string ⟨#[]⟩] := k_N1_0
  refine Pl.qA_go trivial rfl ?_
  refine Pl.pA_end ?_
  by_cases h0 : p.length = 0
  · have hbad : T.ent p = none := by rw [List.eq_nil_of_length_eq_zero h0]; rfl
    repeat refine Pl.V_seq ?_
    refine Pl.V_region (by kernel_rfl) ?_
    refine Pl.qA_go trivial rfl ?_
    refine Pl.qA_ln Tryd.underlying22 trivial rfl rfl rfl rfl rfl ?_
    refine Pl.qA_b (v := .bool true) (fun X => Pl.r_eql (Pl.e_t (by omega)) X) trivial rfl rfl rfl rfl rfl rfl ?_
    refine Pl.qA_go trivial rfl ?_
    refine Pl.pA_end ?_
    repeat refine Pl.V_seq ?_
    refine Pl.V_true rfl ?_
    repeat refine Pl.V_seq ?_
    refine Pl.V_region (by kernel_rfl) ?_
    refine Pl.qA_ev (.agg #[.string ⟨#[]⟩, .string ⟨#[]⟩]) trivial rfl rfl rfl rfl (fun X => by kernel_rfl) ?_
    refine Pl.qA_sw (new := [.string ⟨#[]⟩, .string ⟨#[]⟩]) k_N1_0 (by kernel_rfl) rfl (by simp [Value.oneCell']) rfl rfl rfl rfl rfl rfl (fun Y hY => trivial) ?_
    intro w2 hX2 k_N1_1
    have hE2 := Pl.Ex.xs hE1 hX2 (by omega)
    have sz2 := Pl.Xs.size hX2
    refine Pl.qA_go trivial rfl ?_
    refine Pl.pA_end ?_
    repeat refine Pl.V_seq ?_
    exact Pl.post_c1 rfl rfl rfl (Pl.cellOf k_N1_1 Tryd.underlying24 rfl (by kernel_rfl)) ⟨_, _, _, rfl, EntR.no hbad, hE2⟩
  · obtain ⟨ad, rfl, hat⟩ := h.all (by omega)
    have hb0 := hat 0 (by omega) _ hE1
    have hlt := T.bt_lt p 0
    by_cases hk : p.length ≤ T.bt p 0
    · have hbad := T.ent_none hk
      repeat refine Pl.V_seq ?_
      refine Pl.V_region (by kernel_rfl) ?_
      refine Pl.qA_go trivial rfl ?_
      refine Pl.qA_ln Tryd.underlying22 trivial rfl rfl rfl rfl rfl ?_
      refine Pl.qA_b (v := .bool false) (fun X => Pl.r_eql (Pl.e_f (by omega)) X) trivial rfl rfl rfl rfl rfl rfl ?_
      refine Pl.qA_go trivial rfl ?_
      refine Pl.qA_ix (s := 1) (j := 0) Tryd.underlying22 (by kernel_rfl) rfl (by omega) trivial rfl rfl rfl rfl rfl rfl ?_
      refine Pl.qA_lcw (v := .int .u8 ((T.bt p 0 : Nat) : Int)) Tryd.underlying5 rfl (hb0) trivial rfl rfl rfl rfl rfl ?_
      refine Pl.qA_cv (c := ((T.bt p 0 : Nat) : Int)) Tryd.underlying3 (by kernel_rfl) (Pl.c_id (a := T.bt p 0) rfl (Pl.w64 (by omega) (by omega))) trivial rfl rfl rfl rfl rfl ?_
      refine Pl.qA_go trivial rfl ?_
      refine Pl.qA_ln Tryd.underlying22 trivial rfl rfl rfl rfl rfl ?_
      refine Pl.qA_b (v := .bool true) (fun X => Pl.r_geq (decide_eq_true (by omega)) X) trivial rfl rfl rfl rfl rfl rfl ?_
      refine Pl.qA_go trivial rfl ?_
      refine Pl.pA_end ?_
      repeat refine Pl.V_seq ?_
      refine Pl.V_true rfl ?_
      repeat refine Pl.V_seq ?_
      refine Pl.V_region (by kernel_rfl) ?_
      refine Pl.qA_ev (.agg #[.string ⟨#[]⟩, .string ⟨#[]⟩]) trivial rfl rfl rfl rfl (fun X => by kernel_rfl) ?_
      refine Pl.qA_sw (new := [.string ⟨#[]⟩, .string ⟨#[]⟩]) k_N1_0 (by kernel_rfl) rfl (by simp [Value.oneCell']) rfl rfl rfl rfl rfl rfl (fun Y hY => trivial) ?_
      intro w2 hX2 k_N1_1
      have hE2 := Pl.Ex.xs hE1 hX2 (by omega)
      have sz2 := Pl.Xs.size hX2
      refine Pl.qA_go trivial rfl ?_
      refine Pl.pA_end ?_
      repeat refine Pl.V_seq ?_
      exact Pl.post_c1 rfl rfl rfl (Pl.cellOf k_N1_1 Tryd.underlying24 rfl (by kernel_rfl)) ⟨_, _, _, rfl, EntR.no hbad, hE2⟩
    · repeat refine Pl.V_seq ?_
      refine Pl.V_region (by kernel_rfl) ?_
      refine Pl.qA_go trivial rfl ?_
      refine Pl.qA_ln Tryd.underlying22 trivial rfl rfl rfl rfl rfl ?_
      refine Pl.qA_b (v := .bool false) (fun X => Pl.r_eql (Pl.e_f (by omega)) X) trivial rfl rfl rfl rfl rfl rfl ?_
      refine Pl.qA_go trivial rfl ?_
      refine Pl.qA_ix (s := 1) (j := 0) Tryd.underlying22 (by kernel_rfl) rfl (by omega) trivial rfl rfl rfl rfl rfl rfl ?_
      refine Pl.qA_lcw (v := .int .u8 ((T.bt p 0 : Nat) : Int)) Tryd.underlying5 rfl (hb0) trivial rfl rfl rfl rfl rfl ?_
      refine Pl.qA_cv (c := ((T.bt p 0 : Nat) : Int)) Tryd.underlying3 (by kernel_rfl) (Pl.c_id (a := T.bt p 0) rfl (Pl.w64 (by omega) (by omega))) trivial rfl rfl rfl rfl rfl ?_
      refine Pl.qA_go trivial rfl ?_
      refine Pl.qA_ln Tryd.underlying22 trivial rfl rfl rfl rfl rfl ?_
      refine Pl.qA_b (v := .bool false) (fun X => Pl.r_geq (decide_eq_false (by omega)) X) trivial rfl rfl rfl rfl rfl rfl ?_
      refine Pl.qA_go trivial rfl ?_
      refine Pl.pA_end ?_
      repeat refine Pl.V_seq ?_
      refine Pl.V_false rfl ?_
      repeat refine Pl.V_seq ?_
      refine Pl.V_skip ?_
      repeat refine Pl.V_seq ?_
      refine Pl.V_region (by kernel_rfl) ?_
      refine Pl.qA_go trivial rfl ?_
      refine Pl.qA_ix (s := 1) (j := 0) Tryd.underlying22 (by kernel_rfl) rfl (by omega) trivial rfl rfl rfl rfl rfl rfl ?_
      refine Pl.qA_lcw (v := .int .u8 ((T.bt p 0 : Nat) : Int)) Tryd.underlying5 rfl (hb0) trivial rfl rfl rfl rfl rfl ?_
      refine Pl.qA_cv (c := ((T.bt p 0 : Nat) : Int)) Tryd.underlying3 (by kernel_rfl) (Pl.c_id (a := T.bt p 0) rfl (Pl.w64 (by omega) (by omega))) trivial rfl rfl rfl rfl rfl ?_
      refine Pl.qA_b (v := .int .i64 (((1 + T.bt p 0) : Nat) : Int)) (fun X => Pl.r_add (Pl.a64 (a := 1) (b := T.bt p 0) rfl rfl (by omega)) X) trivial rfl rfl rfl rfl rfl rfl ?_
      refine Pl.qA_go trivial rfl ?_
      refine Pl.pA_end ?_
      have hBy := By.ex h hE1
      have hc1 : By w1 lo (Pl.cutA (some ad) 1 (1 + T.bt p 0) c 1) ((p.drop 1).take (T.bt p 0)) := by have := hBy.cut (l := 1) (k := 1 + T.bt p 0) (by omega) (by omega); rwa [Nat.add_sub_cancel_left] at this
      have hc2 := hBy.rest (l := 1 + T.bt p 0) (by omega)
      repeat refine Pl.V_seq ?_
      refine Pl.V_draw (S := fun X => Pl.Ex w1 X) [(true, 0, 0), (true, 1, 1), (true, 2, 3), (true, 3, 7), (true, 4, 15), (true, 5, 31), (true, 6, 63), (true, 7, 127), (true, 8, 255), (false, 9, 511), (false, 10, 1023)] fo Pl.post_panic (by kernel_rfl) (Pl.Ex.trans (Pl.Ex.refl _) (Pl.Ex.drew _)) ?_
      have hE2 := Pl.Ex.drew w1
      generalize w1.drew = w2 at *
      have sz2 := Pl.Ex.size hE2
      intro hS2
      refine Pl.qA_go hS2 rfl ?_
      refine Pl.qA_sl (kl := .i64) (kh := .i64) (lo' := 1) (hi' := ((1 + T.bt p 0))) (s := 1) Tryd.underlying22 (by kernel_rfl) (.inr ⟨_, _, rfl, rfl, rfl⟩) (.inr ⟨_, _, rfl, rfl, rfl⟩) (by omega) (by omega) hS2 rfl rfl rfl rfl rfl ?_
      refine qA_fs (bs := (p.drop 1).take (T.bt p 0)) (fun X hX => By.ex hc1 hX) hS2 rfl rfl rfl rfl rfl ?_
      refine Pl.qA_go hS2 rfl ?_
      refine Pl.qA_sl (kl := .i64) (kh := .i64) (lo' := ((1 + T.bt p 0))) (hi' := p.length) (s := 1) Tryd.underlying22 (by kernel_rfl) (.inr ⟨_, _, rfl, rfl, rfl⟩) (.inl ⟨rfl, rfl, by omega⟩) (by omega) (by omega) hS2 rfl rfl rfl rfl rfl ?_
      refine qA_fs (bs := p.drop (1 + T.bt p 0)) (fun X hX => By.ex hc2 hX) hS2 rfl rfl rfl rfl rfl ?_
      refine Pl.qA_ev (.agg #[.string (mkS ((p.drop 1).take (T.bt p 0))), .string (mkS (p.drop (1 + T.bt p 0)))]) hS2 rfl rfl rfl rfl (fun X => by kernel_rfl) ?_
      refine Pl.qA_al (z := .agg #[.string ⟨#[]⟩, .string ⟨#[]⟩]) (by kernel_rfl) rfl rfl rfl rfl (fun Y hY => Pl.Ex.trans hS2 hY) ?_
      intro N2 w3 hE3 hN_N2 k_N2_0
      have z_N2 := Pl.Cb.lt k_N2_0
      have sz3 := Pl.Ex.size hE3
      replace k_N2_0 : Pl.Cb w3 N2 24 [.string ⟨#[]⟩, .string ⟨#[]⟩] := k_N2_0
      have hS3 := Pl.Ex.trans hS2 hE3
      refine Pl.qA_sw (new := [.string (mkS ((p.drop 1).take (T.bt p 0))), .string (mkS (p.drop (1 + T.bt p 0)))]) k_N2_0 (by kernel_rfl) rfl (by simp [Value.oneCell']) rfl rfl rfl rfl rfl rfl (fun Y hY => Pl.Ex.xs hS3 hY (by omega)) ?_
      intro w4 hX4 k_N2_1
      have hE4 := Pl.Ex.xs hE3 hX4 (by omega)
      have sz4 := Pl.Xs.size hX4
      have hS4 := Pl.Ex.xs hS3 hX4 (by omega)
      refine Pl.pA_end ?_
      repeat refine Pl.V_seq ?_
      refine Pl.V_draw (S := fun X => Pl.Ex w X ∧ Pl.Cb X N2 24 [.string (mkS ((p.drop 1).take (T.bt p 0))), .string (mkS (p.drop (1 + T.bt p 0)))]) [(true, 0, 0), (true, 1, 1), (false, 2, 3), (false, 3, 7), (true, 4, 15)] fo Pl.post_panic (by kernel_rfl) ⟨Pl.Ex.trans (Pl.Ex.trans hE1 (Pl.Ex.trans hE2 hE4)) (Pl.Ex.drew _), Pl.Cb.ex k_N2_1 (Pl.Ex.drew _)⟩ ?_
      have hE5 := Pl.Ex.drew w4
      generalize w4.drew = w5 at *
      have sz5 := Pl.Ex.size hE5
      intro hS5
      refine Pl.qA_lr (part := [.string (mkS ((p.drop 1).take (T.bt p 0))), .string (mkS (p.drop (1 + T.bt p 0)))]) (fun X hX => hX.2) rfl Tryd.underlying24 rfl (by kernel_rfl) hS5 rfl rfl rfl rfl rfl ?_
      refine Pl.qA_lr (part := [.string (mkS ((p.drop 1).take (T.bt p 0))), .string (mkS (p.drop (1 + T.bt p 0)))]) (fun X hX => hX.2) rfl Tryd.underlying24 rfl (by kernel_rfl) hS5 rfl rfl rfl rfl rfl ?_
      refine Pl.pA_call rfl rfl rfl rfl rfl (fun u X => Pl.enters Tryd.func24 (by kernel_rfl) rfl u X) ?_
      refine Calls.mono (may_calls _ ((p.drop 1).take (T.bt p 0), p.drop (1 + T.bt p 0))) ?_
      rintro e w6 ⟨rfl, hE6⟩
      have sz6 := Pl.Ex.size hE6
      have hS6 := And.intro (Pl.Ex.trans hS5.1 hE6) (Pl.Cb.ex hS5.2 hE6)
      refine ⟨_, rfl, hS6, ?_⟩
      refine Pl.qA_sw (new := [.string (mkS ((p.drop 1).take (T.bt p 0))), .string (mkS (p.drop (1 + T.bt p 0)))]) (Pl.Cb.ex k_N1_0 (Pl.Ex.trans hE2 (Pl.Ex.trans hE4 (Pl.Ex.trans hE5 hE6)))) (by kernel_rfl) rfl (by simp [Value.oneCell']) rfl rfl rfl rfl rfl rfl (fun Y hY => ⟨Pl.Ex.xs hS6.1 hY (by omega), Pl.Cb.xs hS6.2 hY (by simp; omega)⟩) ?_
      intro w7 hX7 k_N1_1
      have hE7 := Pl.Ex.xs (Pl.Ex.trans hE1 (Pl.Ex.trans hE2 (Pl.Ex.trans hE4 (Pl.Ex.trans hE5 hE6)))) hX7 (by omega)
      have sz7 := Pl.Xs.size hX7
      have hS7 := And.intro (Pl.Ex.xs hS6.1 hX7 (by omega)) (Pl.Cb.xs hS6.2 hX7 (by simp; omega))
      have k_N2_2 := Pl.Cb.xs (Pl.Cb.ex k_N2_1 (Pl.Ex.trans hE5 hE6)) hX7 (by simp; omega)
      refine Pl.qA_go hS7 rfl ?_
      refine Pl.pA_end ?_
      repeat refine Pl.V_seq ?_
      exact Pl.post_c1 rfl rfl rfl (Pl.cellOf k_N1_1 Tryd.underlying24 rfl (by kernel_rfl)) ⟨_, _, _, rfl, EntR.may (by omega), hE7⟩
end Go.Proofs.YtmioaeaobefphaaDoor
