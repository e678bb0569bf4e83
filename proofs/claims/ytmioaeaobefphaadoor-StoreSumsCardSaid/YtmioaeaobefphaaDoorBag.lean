/- Sums of bytes, by nibbles and bit by bit. -/
import Derived.Test.YtmioaeaobefphaaDoorBae
import Derived.Test.YtmioaeaobefphaaDoorBaf

namespace Go.Proofs.YtmioaeaobefphaaDoor
open Go.RowKit 
set_option linter.unusedVariables false
set_option linter.unusedSimpArgs false
set_option maxRecDepth 100000
set_option maxHeartbeats 4000000
theorem fo : Tryd.prog.follows .mixedOrders = true := by kernel_rfl
def cB (bs : T.Byt) : List Value := bs.map fun b => .int .u8 ((b.toNat : Nat) : Int)
theorem cB_len (bs : T.Byt) : (cB bs).length = bs.length := by simp [cB]
theorem cB_append (a b : T.Byt) : cB (a ++ b) = cB a ++ cB b := by simp [cB]
theorem cB_get {bs : T.Byt} {j : Nat} (h : j < bs.length) : (cB bs)[j]? = some (.int .u8 ((bs[j].toNat : Nat) : Int)) := by simp [cB, h]
theorem cB_one (bs : T.Byt) : ∀ c ∈ cB bs, c.oneCell' = true := fun c hc => by obtain ⟨b, _, rfl⟩ := List.mem_map.1 hc; rfl
/-- A slice of these bytes, that lies nowhere below block lo. -/
def By (w : World) (lo : Nat) (v : Value) (bs : T.Byt) : Prop := Pl.Sl w lo v bs.length (cB bs)
theorem By.ex {w w' : World} {lo : Nat} {v : Value} {bs : T.Byt} (h : By w lo v bs) (k : Pl.Ex w w') : By w' lo v bs := Pl.Sl.ex h k
theorem By.at {w : World} {lo n c : Nat} {A : Option Addr} {bs : T.Byt} (h : By w lo (.slice A n c) bs) {j : Nat} (hj : j < bs.length) : ∃ ad, A = some ad ∧ w.cell? (ad.add (j * 1)) = some (.int .u8 ((bs[j].toNat : Nat) : Int)) := by
  obtain ⟨A', c', e, h1, h2, h3⟩ := h
  cases e
  obtain ⟨ad, e, _, _, hc⟩ := h3 (by rw [cB_len]; omega)
  exact ⟨ad, e, by rw [Nat.mul_one]; exact hc j _ (cB_get hj)⟩
theorem By.sh {w : World} {lo : Nat} {v : Value} {bs : T.Byt} (h : By w lo v bs) : ∃ A c, v = .slice A bs.length c ∧ bs.length ≤ c ∧ c ≤ 9223372036854775807 := Pl.Sl.sh h
theorem By.nil (w : World) (lo : Nat) : By w lo (.slice none 0 0) [] := Pl.Sl.nil w lo
/-- A part of it. -/
theorem By.cut {w : World} {lo n c : Nat} {A : Option Addr} {bs : T.Byt} (h : By w lo (.slice A n c) bs) {l k : Nat} (h1 : l ≤ k) (h2 : k ≤ bs.length) : By w lo (Pl.cutA A l k c 1) ((bs.drop l).take (k - l)) := by
  obtain ⟨A', c', e, h3⟩ := id h
  cases e
  have := Pl.Sl.cut (s := 1) h (by rw [cB_len, Nat.mul_one]) h1 h2
  have e1 : ((bs.drop l).take (k - l)).length = k - l := by rw [List.length_take, List.length_drop]; omega
  unfold By
  rw [e1]
  simpa [cB, List.map_take, List.map_drop] using this
/-- The variables that are laid. -/
structure Gl (w : World) : Prop where
  tab : ∀ j, j < 16 → w.cell? ⟨0, j, none⟩ = some (.int .u32 ((T.s4 j : Nat) : Int))
  err : w.cell? ⟨1, 0, none⟩ = some (.iface 87 (.agg #[.pointer (some ⟨2, 58, none⟩)]))
  lt : 1 < w.heap.size
theorem Gl.ex {w w' : World} (h : Gl w) (k : Pl.Ex w w') : Gl w' :=
  ⟨fun j hj => (Below.cell k (p := ⟨0, j, none⟩) (by have := h.lt; show 0 < w.heap.size; omega)).trans (h.tab j hj), (Below.cell k (p := ⟨1, 0, none⟩) h.lt).trans h.err, Nat.lt_of_lt_of_le h.lt k.size⟩
theorem take_snoc (bs : T.Byt) {j : Nat} (h : j < bs.length) : bs.take (j + 1) = bs.take j ++ [bs[j]] := by rw [List.take_add_one, List.getElem?_eq_getElem h]; rfl
theorem crc_snoc (bs : T.Byt) (c : Nat) {j : Nat} (h : j < bs.length) : T.crc c (T.nb (bs.take (j + 1))) = T.s8 (T.crc c (T.nb (bs.take j)) ^^^ bs[j].toNat) := by
  rw [take_snoc bs h, T.nb_append, T.crc_append]; rfl
theorem crc_small (bs : T.Byt) (j : Nat) : T.crc 4294967295 (T.nb (bs.take j)) < 4294967296 := T.crc_lt _ _ (by omega) (T.nb_lt _)
theorem xor32 {a b : Nat} (ha : a < 4294967296) (hb : b < 4294967296) : a ^^^ b < 4294967296 := Nat.xor_lt_two_pow (n := 32) ha hb
theorem and15 (a : Nat) : a &&& 15 = a % 16 := Nat.and_two_pow_sub_one_eq_mod a 4
theorem and1 (a : Nat) : a &&& 1 = a % 2 := Nat.and_two_pow_sub_one_eq_mod a 1
theorem s1_odd {c : Nat} (h : c % 2 = 1) : T.s1 c = c / 2 ^^^ 3988292384 := by unfold T.s1; rw [if_pos h]
theorem s1_even {c : Nat} (h : c % 2 = 0) : T.s1 c = c / 2 := by unfold T.s1; rw [if_neg (by omega)]
theorem u_xor32 {P : Program} {a : Nat} (h : a < 4294967296) {X : World} : (Op.unary .xor (.int .u32 (a : Int))).run P X = .ok (.int .u32 ((a ^^^ 4294967295 : Nat) : Int)) X := by
  have := Pl.bn_and (P := P) (T := 0) (x := .tmp 0) (y := .tmp 0) (a := 4294967295) (b := a) .xor (.inr (.inr rfl)) .u32 rfl (by decide) h (· ^^^ ·) ⟨fun h => by (cases h), fun h => by (cases h), fun _ => rfl⟩ X
  rw [Nat.xor_comm a]
  rw [← this]
  simp [Pl.Bn, eqGuard, binOp, Op.unary, IntKind.signed, IntKind.max, IntKind.bits]
def T.s1N : Nat → Nat → Nat
  | 0, c => c
  | k + 1, c => T.s1N k (T.s1 c)
theorem sum_calls (w : World) (v : Value) (lo : Nat) (bs : T.Byt) (h : By w lo v bs) (hg : Gl w) :
    Calls Tryd.prog 17 #[v] w fun e w' => e = .returned (.int .u32 ((T.csum bs : Nat) : Int)) ∧ w' = w := by
  obtain ⟨A, c, rfl, hnc, hcm⟩ := h.sh
  refine Pl.calls_by (n := 36) (vs := [.slice A bs.length c]) Tryd.func17 rfl (by kernel_rfl) (by simp) ?_
  repeat refine Pl.V_seq ?_
  refine Pl.V_region (by kernel_rfl) ?_
  refine Pl.qA_go trivial rfl ?_
  refine Pl.pA_end ?_
  repeat refine Pl.V_seq ?_
  refine Pl.V_region (by kernel_rfl) ?_
  refine Pl.qA_go trivial rfl ?_
  refine Pl.pA_end ?_
  repeat refine Pl.V_seq ?_
  refine Pl.V_region (by kernel_rfl) ?_
  refine Pl.qA_go trivial rfl ?_
  refine Pl.qA_ln Tryd.underlying22 trivial rfl rfl rfl rfl rfl ?_
  refine Pl.qA_go trivial rfl ?_
  refine Pl.pA_end ?_
  repeat refine Pl.V_seq ?_
  refine Pl.V_block ?_
  repeat refine Pl.V_seq ?_
  refine Pl.V_sub [(3, .int .u32 4294967295), (6, .slice A bs.length c), (7, .int .i64 ((bs.length : Nat) : Int)), (8, .int .i64 0)] (Pl.subl_cons rfl (Pl.subl_cons rfl (Pl.subl_cons rfl (Pl.subl_cons rfl Pl.subl_nil)))) ?_
  refine Pl.V_loop (fun k l' w' => ∃ j, j + k = bs.length ∧ w = w' ∧ l' = [(3, .int .u32 ((T.crc 4294967295 (T.nb (bs.take j)) : Nat) : Int)), (6, .slice A bs.length c), (7, .int .i64 ((bs.length : Nat) : Int)), (8, .int .i64 ((j : Nat) : Int))]) bs.length ⟨0, by omega, rfl, rfl⟩ ?_
  rintro k _ _ ⟨j, hj, rfl, rfl⟩
  have hsm := crc_small bs j
  by_cases hlt : j < bs.length
  · obtain ⟨ad, rfl, hc⟩ := h.at hlt
    have hstep := crc_snoc bs 4294967295 hlt
    generalize T.crc 4294967295 (T.nb (bs.take j)) = R at *
    have hx := bs[j].toNat_lt
    generalize bs[j].toNat = x at *
    rw [T.s8_nib R x hx] at hstep
    have hRx := xor32 hsm (show x < 4294967296 by omega)
    have hs1 := T.s4_lt ((R ^^^ x) % 16) (by omega)
    have ht1 := (hg.tab ((R ^^^ x) % 16) (by omega))
    rw [← Pl.add0] at ht1
    have hR1 := xor32 (show R / 16 < 4294967296 by omega) hs1
    repeat refine Pl.V_seq ?_
    refine Pl.V_region (by kernel_rfl) ?_
    refine Pl.qA_b (v := .bool true) (fun X => Pl.r_lss (decide_eq_true (by omega)) X) trivial rfl rfl rfl rfl rfl rfl ?_
    refine Pl.pA_end ?_
    repeat refine Pl.V_seq ?_
    refine Pl.V_true rfl ?_
    repeat refine Pl.V_seq ?_
    refine Pl.V_skip ?_
    repeat refine Pl.V_seq ?_
    refine Pl.V_block ?_
    repeat refine Pl.V_seq ?_
    refine Pl.V_region (by kernel_rfl) ?_
    refine Pl.qA_ix (s := 1) (j := j) Tryd.underlying22 (by kernel_rfl) rfl (by omega) trivial rfl rfl rfl rfl rfl rfl ?_
    refine Pl.qA_lcw (v := .int .u8 ((x : Nat) : Int)) Tryd.underlying5 rfl (hc) trivial rfl rfl rfl rfl rfl ?_
    refine Pl.qA_go trivial rfl ?_
    refine Pl.pA_end ?_
    repeat refine Pl.V_seq ?_
    refine Pl.V_region (by kernel_rfl) ?_
    refine Pl.qA_go trivial rfl ?_
    refine Pl.qA_b (v := .int .u32 ((R / 16 : Nat) : Int)) (fun X => Pl.r_shr (n := R) (m := 4) rfl (by decide) X) trivial rfl rfl rfl rfl rfl rfl ?_
    refine Pl.qA_go trivial rfl ?_
    refine Pl.qA_cv (c := ((x : Nat) : Int)) Tryd.underlying33 (by kernel_rfl) (Pl.c_id (a := x) rfl (Pl.w32 (by omega) (by omega))) trivial rfl rfl rfl rfl rfl ?_
    refine Pl.qA_b (v := .int .u32 ((R ^^^ x : Nat) : Int)) (fun X => Pl.r_xor32 (a := R) (b := x) (by omega) (by omega) rfl rfl (rfl) X) trivial rfl rfl rfl rfl rfl rfl ?_
    refine Pl.qA_b (v := .int .u32 (((R ^^^ x) % 16 : Nat) : Int)) (fun X => Pl.r_and32 (a := (R ^^^ x)) (b := 15) (by omega) (by omega) rfl rfl (and15 _) X) trivial rfl rfl rfl rfl rfl rfl ?_
    refine Pl.qA_ia (s := 1) (j := ((R ^^^ x) % 16)) Tryd.underlying66 (by kernel_rfl) rfl (by omega) trivial rfl rfl rfl rfl rfl rfl ?_
    refine Pl.qA_lcw (v := .int .u32 ((T.s4 ((R ^^^ x) % 16) : Nat) : Int)) Tryd.underlying33 rfl (ht1) trivial rfl rfl rfl rfl rfl ?_
    refine Pl.qA_b (v := .int .u32 ((R / 16 ^^^ T.s4 ((R ^^^ x) % 16) : Nat) : Int)) (fun X => Pl.r_xor32 (a := (R / 16)) (b := (T.s4 ((R ^^^ x) % 16))) (by omega) (by omega) rfl rfl (rfl) X) trivial rfl rfl rfl rfl rfl rfl ?_
    refine Pl.qA_go trivial rfl ?_
    refine Pl.pA_end ?_
    generalize R / 16 ^^^ T.s4 ((R ^^^ x) % 16) = Q at *
    have hQx := xor32 hR1 (show x / 16 < 4294967296 by omega)
    have hs2 := T.s4_lt ((Q ^^^ x / 16) % 16) (by omega)
    have ht2 := (hg.tab ((Q ^^^ x / 16) % 16) (by omega))
    rw [← Pl.add0] at ht2
    repeat refine Pl.V_seq ?_
    refine Pl.V_region (by kernel_rfl) ?_
    refine Pl.qA_go trivial rfl ?_
    refine Pl.qA_b (v := .int .u32 ((Q / 16 : Nat) : Int)) (fun X => Pl.r_shr (n := Q) (m := 4) rfl (by decide) X) trivial rfl rfl rfl rfl rfl rfl ?_
    refine Pl.qA_go trivial rfl ?_
    refine Pl.qA_b (v := .int .u8 ((x / 16 : Nat) : Int)) (fun X => Pl.r_shr (n := x) (m := 4) rfl (by decide) X) trivial rfl rfl rfl rfl rfl rfl ?_
    refine Pl.qA_cv (c := ((x / 16 : Nat) : Int)) Tryd.underlying33 (by kernel_rfl) (Pl.c_id (a := x / 16) rfl (Pl.w32 (by omega) (by omega))) trivial rfl rfl rfl rfl rfl ?_
    refine Pl.qA_b (v := .int .u32 ((Q ^^^ x / 16 : Nat) : Int)) (fun X => Pl.r_xor32 (a := Q) (b := (x / 16)) (by omega) (by omega) rfl rfl (rfl) X) trivial rfl rfl rfl rfl rfl rfl ?_
    refine Pl.qA_b (v := .int .u32 (((Q ^^^ x / 16) % 16 : Nat) : Int)) (fun X => Pl.r_and32 (a := (Q ^^^ x / 16)) (b := 15) (by omega) (by omega) rfl rfl (and15 _) X) trivial rfl rfl rfl rfl rfl rfl ?_
    refine Pl.qA_ia (s := 1) (j := ((Q ^^^ x / 16) % 16)) Tryd.underlying66 (by kernel_rfl) rfl (by omega) trivial rfl rfl rfl rfl rfl rfl ?_
    refine Pl.qA_lcw (v := .int .u32 ((T.s4 ((Q ^^^ x / 16) % 16) : Nat) : Int)) Tryd.underlying33 rfl (ht2) trivial rfl rfl rfl rfl rfl ?_
    refine Pl.qA_b (v := .int .u32 ((Q / 16 ^^^ T.s4 ((Q ^^^ x / 16) % 16) : Nat) : Int)) (fun X => Pl.r_xor32 (a := (Q / 16)) (b := (T.s4 ((Q ^^^ x / 16) % 16))) (by omega) (by omega) rfl rfl (rfl) X) trivial rfl rfl rfl rfl rfl rfl ?_
    refine Pl.qA_go trivial rfl ?_
    refine Pl.pA_end ?_
    repeat refine Pl.V_seq ?_
    refine Pl.V_endblock ?_
    repeat refine Pl.V_seq ?_
    refine Pl.V_region (by kernel_rfl) ?_
    refine Pl.qA_b (v := .int .i64 (((j + 1) : Nat) : Int)) (fun X => Pl.r_add (Pl.a64 (a := j) (b := 1) rfl rfl (by omega)) X) trivial rfl rfl rfl rfl rfl rfl ?_
    refine Pl.qA_go trivial rfl ?_
    refine Pl.pA_end ?_
    refine Pl.V_again [(3, .int .u32 ((Q / 16 ^^^ T.s4 ((Q ^^^ x / 16) % 16) : Nat) : Int)), (6, .slice (some ad) bs.length c), (7, .int .i64 ((bs.length : Nat) : Int)), (8, .int .i64 (((j + 1) : Nat) : Int))] (Pl.subl_cons rfl (Pl.subl_cons rfl (Pl.subl_cons rfl (Pl.subl_cons rfl Pl.subl_nil)))) (k' := k - 1) (by omega) ⟨j + 1, by omega, rfl, by rw [← hstep]⟩
  · repeat refine Pl.V_seq ?_
    refine Pl.V_region (by kernel_rfl) ?_
    refine Pl.qA_b (v := .bool false) (fun X => Pl.r_lss (decide_eq_false (by omega)) X) trivial rfl rfl rfl rfl rfl rfl ?_
    refine Pl.pA_end ?_
    repeat refine Pl.V_seq ?_
    refine Pl.V_false rfl ?_
    repeat refine Pl.V_seq ?_
    refine Pl.V_exit ?_
    obtain rfl : j = bs.length := by omega
    rw [List.take_length] at *
    repeat refine Pl.V_seq ?_
    refine Pl.V_region (by kernel_rfl) ?_
    refine Pl.qA_go trivial rfl ?_
    refine Pl.qA_un (v := .int .u32 ((T.csum bs : Nat) : Int)) trivial rfl rfl rfl rfl rfl (fun X => u_xor32 hsm) ?_
    refine Pl.qA_go trivial rfl ?_
    refine Pl.pA_end ?_
    exact Pl.post_ret rfl rfl ⟨rfl, rfl⟩
theorem rsum_calls (w : World) (v : Value) (lo : Nat) (bs : T.Byt) (h : By w lo v bs) :
    Calls Tryd.prog 18 #[v] w fun e w' => e = .returned (.int .u32 ((T.csum bs : Nat) : Int)) ∧ w' = w := by
  obtain ⟨A, c, rfl, hnc, hcm⟩ := h.sh
  refine Pl.calls_by (n := 33) (vs := [.slice A bs.length c]) Tryd.func18 rfl (by kernel_rfl) (by simp) ?_
  repeat refine Pl.V_seq ?_
  refine Pl.V_region (by kernel_rfl) ?_
  refine Pl.qA_go trivial rfl ?_
  refine Pl.pA_end ?_
  repeat refine Pl.V_seq ?_
  refine Pl.V_region (by kernel_rfl) ?_
  refine Pl.qA_go trivial rfl ?_
  refine Pl.pA_end ?_
  repeat refine Pl.V_seq ?_
  refine Pl.V_region (by kernel_rfl) ?_
  refine Pl.qA_go trivial rfl ?_
  refine Pl.pA_end ?_
  repeat refine Pl.V_seq ?_
  refine Pl.V_block ?_
  repeat refine Pl.V_seq ?_
  refine Pl.V_sub [(0, .slice A bs.length c), (3, .int .u32 4294967295), (4, .int .i64 0)] (Pl.subl_cons rfl (Pl.subl_cons rfl (Pl.subl_cons rfl Pl.subl_nil))) ?_
  refine Pl.V_loop (fun k l' w' => ∃ j, j + k = bs.length ∧ w = w' ∧ l' = [(0, .slice A bs.length c), (3, .int .u32 ((T.crc 4294967295 (T.nb (bs.take j)) : Nat) : Int)), (4, .int .i64 ((j : Nat) : Int))]) bs.length ⟨0, by omega, rfl, rfl⟩ ?_
  rintro k _ _ ⟨j, hj, rfl, rfl⟩
  have hsm := crc_small bs j
  by_cases hlt : j < bs.length
  · obtain ⟨ad, rfl, hc⟩ := h.at hlt
    have hstep := crc_snoc bs 4294967295 hlt
    generalize T.crc 4294967295 (T.nb (bs.take j)) = R at *
    have hx := bs[j].toNat_lt
    generalize bs[j].toNat = x at *
    have hRx := xor32 hsm (show x < 4294967296 by omega)
    repeat refine Pl.V_seq ?_
    refine Pl.V_region (by kernel_rfl) ?_
    refine Pl.qA_go trivial rfl ?_
    refine Pl.qA_ln Tryd.underlying22 trivial rfl rfl rfl rfl rfl ?_
    refine Pl.qA_b (v := .bool true) (fun X => Pl.r_lss (decide_eq_true (by omega)) X) trivial rfl rfl rfl rfl rfl rfl ?_
    refine Pl.pA_end ?_
    repeat refine Pl.V_seq ?_
    refine Pl.V_true rfl ?_
    repeat refine Pl.V_seq ?_
    refine Pl.V_skip ?_
    repeat refine Pl.V_seq ?_
    refine Pl.V_block ?_
    repeat refine Pl.V_seq ?_
    refine Pl.V_region (by kernel_rfl) ?_
    refine Pl.qA_go trivial rfl ?_
    refine Pl.qA_ix (s := 1) (j := j) Tryd.underlying22 (by kernel_rfl) rfl (by omega) trivial rfl rfl rfl rfl rfl rfl ?_
    refine Pl.qA_lcw (v := .int .u8 ((x : Nat) : Int)) Tryd.underlying5 rfl (hc) trivial rfl rfl rfl rfl rfl ?_
    refine Pl.qA_cv (c := ((x : Nat) : Int)) Tryd.underlying33 (by kernel_rfl) (Pl.c_id (a := x) rfl (Pl.w32 (by omega) (by omega))) trivial rfl rfl rfl rfl rfl ?_
    refine Pl.qA_b (v := .int .u32 ((R ^^^ x : Nat) : Int)) (fun X => Pl.r_xor32 (a := R) (b := x) (by omega) (by omega) rfl rfl (rfl) X) trivial rfl rfl rfl rfl rfl rfl ?_
    refine Pl.qA_go trivial rfl ?_
    refine Pl.pA_end ?_
    repeat refine Pl.V_seq ?_
    refine Pl.V_region (by kernel_rfl) ?_
    refine Pl.qA_go trivial rfl ?_
    refine Pl.pA_end ?_
    repeat refine Pl.V_seq ?_
    refine Pl.V_block ?_
    generalize R ^^^ x = Q at *
    repeat refine Pl.V_seq ?_
    refine Pl.V_sub [(0, .slice (some ad) bs.length c), (3, .int .u32 ((Q : Nat) : Int)), (4, .int .i64 ((j : Nat) : Int)), (5, .int .i64 0)] (Pl.subl_cons rfl (Pl.subl_cons rfl (Pl.subl_cons rfl (Pl.subl_cons rfl Pl.subl_nil)))) ?_
    have hN : Q < 2 ^ 32 := hRx
    refine Pl.V_loop (fun k l' w' => ∃ q R', q + k = 8 ∧ w = w' ∧ R' < 4294967296 ∧ T.s1N k R' = T.s8 Q ∧ l' = [(0, .slice (some ad) bs.length c), (3, .int .u32 ((R' : Nat) : Int)), (4, .int .i64 ((j : Nat) : Int)), (5, .int .i64 ((q : Nat) : Int))]) 8 ⟨0, Q, rfl, rfl, hRx, rfl, rfl⟩ ?_
    rintro k2 _ _ ⟨q, R', hq, rfl, hR', hs, rfl⟩
    by_cases hq8 : q < 8
    · obtain ⟨k3, rfl⟩ : ∃ k3, k2 = k3 + 1 := ⟨k2 - 1, by omega⟩
      repeat refine Pl.V_seq ?_
      refine Pl.V_region (by kernel_rfl) ?_
      refine Pl.qA_go trivial rfl ?_
      refine Pl.qA_b (v := .bool true) (fun X => Pl.r_lss (decide_eq_true (by omega)) X) trivial rfl rfl rfl rfl rfl rfl ?_
      refine Pl.pA_end ?_
      repeat refine Pl.V_seq ?_
      refine Pl.V_true rfl ?_
      repeat refine Pl.V_seq ?_
      refine Pl.V_skip ?_
      repeat refine Pl.V_seq ?_
      refine Pl.V_block ?_
      rcases Nat.mod_two_eq_zero_or_one R' with hm | hm
      · repeat refine Pl.V_seq ?_
        refine Pl.V_region (by kernel_rfl) ?_
        refine Pl.qA_go trivial rfl ?_
        refine Pl.qA_b (v := .int .u32 ((R' % 2 : Nat) : Int)) (fun X => Pl.r_and32 (a := R') (b := 1) (by omega) (by omega) rfl rfl (and1 _) X) trivial rfl rfl rfl rfl rfl rfl ?_
        refine Pl.qA_b (v := .bool false) (fun X => Pl.r_eql (Pl.e_f (by omega)) X) trivial rfl rfl rfl rfl rfl rfl ?_
        refine Pl.pA_end ?_
        repeat refine Pl.V_seq ?_
        refine Pl.V_false rfl ?_
        repeat refine Pl.V_seq ?_
        refine Pl.V_region (by kernel_rfl) ?_
        refine Pl.qA_go trivial rfl ?_
        refine Pl.qA_b (v := .int .u32 ((R' / 2 : Nat) : Int)) (fun X => Pl.r_shr (n := R') (m := 1) rfl (by decide) X) trivial rfl rfl rfl rfl rfl rfl ?_
        refine Pl.qA_go trivial rfl ?_
        refine Pl.pA_end ?_
        repeat refine Pl.V_seq ?_
        refine Pl.V_endblock ?_
        repeat refine Pl.V_seq ?_
        refine Pl.V_region (by kernel_rfl) ?_
        refine Pl.qA_go trivial rfl ?_
        refine Pl.qA_b (v := .int .i64 (((q + 1) : Nat) : Int)) (fun X => Pl.r_add (Pl.a64 (a := q) (b := 1) rfl rfl (by omega)) X) trivial rfl rfl rfl rfl rfl rfl ?_
        refine Pl.qA_go trivial rfl ?_
        refine Pl.pA_end ?_
        refine Pl.V_again [(0, .slice (some ad) bs.length c), (3, .int .u32 ((R' / 2 : Nat) : Int)), (4, .int .i64 ((j : Nat) : Int)), (5, .int .i64 (((q + 1) : Nat) : Int))] (Pl.subl_cons rfl (Pl.subl_cons rfl (Pl.subl_cons rfl (Pl.subl_cons rfl Pl.subl_nil)))) (k' := k3) (by omega) ⟨q + 1, T.s1 R', by omega, rfl, T.s1_lt _ hR', hs, by rw [s1_even hm]⟩
      · repeat refine Pl.V_seq ?_
        refine Pl.V_region (by kernel_rfl) ?_
        refine Pl.qA_go trivial rfl ?_
        refine Pl.qA_b (v := .int .u32 ((R' % 2 : Nat) : Int)) (fun X => Pl.r_and32 (a := R') (b := 1) (by omega) (by omega) rfl rfl (and1 _) X) trivial rfl rfl rfl rfl rfl rfl ?_
        refine Pl.qA_b (v := .bool true) (fun X => Pl.r_eql (Pl.e_t (by omega)) X) trivial rfl rfl rfl rfl rfl rfl ?_
        refine Pl.pA_end ?_
        repeat refine Pl.V_seq ?_
        refine Pl.V_true rfl ?_
        repeat refine Pl.V_seq ?_
        refine Pl.V_region (by kernel_rfl) ?_
        refine Pl.qA_go trivial rfl ?_
        refine Pl.qA_b (v := .int .u32 ((R' / 2 : Nat) : Int)) (fun X => Pl.r_shr (n := R') (m := 1) rfl (by decide) X) trivial rfl rfl rfl rfl rfl rfl ?_
        refine Pl.qA_b (v := .int .u32 ((R' / 2 ^^^ 3988292384 : Nat) : Int)) (fun X => Pl.r_xor32 (a := (R' / 2)) (b := 3988292384) (by omega) (by omega) rfl rfl (rfl) X) trivial rfl rfl rfl rfl rfl rfl ?_
        refine Pl.qA_go trivial rfl ?_
        refine Pl.pA_end ?_
        repeat refine Pl.V_seq ?_
        refine Pl.V_endblock ?_
        repeat refine Pl.V_seq ?_
        refine Pl.V_region (by kernel_rfl) ?_
        refine Pl.qA_go trivial rfl ?_
        refine Pl.qA_b (v := .int .i64 (((q + 1) : Nat) : Int)) (fun X => Pl.r_add (Pl.a64 (a := q) (b := 1) rfl rfl (by omega)) X) trivial rfl rfl rfl rfl rfl rfl ?_
        refine Pl.qA_go trivial rfl ?_
        refine Pl.pA_end ?_
        refine Pl.V_again [(0, .slice (some ad) bs.length c), (3, .int .u32 ((R' / 2 ^^^ 3988292384 : Nat) : Int)), (4, .int .i64 ((j : Nat) : Int)), (5, .int .i64 (((q + 1) : Nat) : Int))] (Pl.subl_cons rfl (Pl.subl_cons rfl (Pl.subl_cons rfl (Pl.subl_cons rfl Pl.subl_nil)))) (k' := k3) (by omega) ⟨q + 1, T.s1 R', by omega, rfl, T.s1_lt _ hR', hs, by rw [s1_odd hm]⟩
    · repeat refine Pl.V_seq ?_
      refine Pl.V_region (by kernel_rfl) ?_
      refine Pl.qA_go trivial rfl ?_
      refine Pl.qA_b (v := .bool false) (fun X => Pl.r_lss (decide_eq_false (by omega)) X) trivial rfl rfl rfl rfl rfl rfl ?_
      refine Pl.pA_end ?_
      repeat refine Pl.V_seq ?_
      refine Pl.V_false rfl ?_
      repeat refine Pl.V_seq ?_
      refine Pl.V_exit ?_
      obtain rfl : k2 = 0 := by omega
      have hs : R' = T.s8 Q := hs
      rw [← hs] at hstep
      repeat refine Pl.V_seq ?_
      refine Pl.V_endblock ?_
      repeat refine Pl.V_seq ?_
      refine Pl.V_region (by kernel_rfl) ?_
      refine Pl.qA_go trivial rfl ?_
      refine Pl.qA_b (v := .int .i64 (((j + 1) : Nat) : Int)) (fun X => Pl.r_add (Pl.a64 (a := j) (b := 1) rfl rfl (by omega)) X) trivial rfl rfl rfl rfl rfl rfl ?_
      refine Pl.qA_go trivial rfl ?_
      refine Pl.pA_end ?_
      refine Pl.V_again [(0, .slice (some ad) bs.length c), (3, .int .u32 ((R' : Nat) : Int)), (4, .int .i64 (((j + 1) : Nat) : Int))] (Pl.subl_cons rfl (Pl.subl_cons rfl (Pl.subl_cons rfl Pl.subl_nil))) (k' := k - 1) (by omega) ⟨j + 1, by omega, rfl, by rw [hstep]⟩
  · repeat refine Pl.V_seq ?_
    refine Pl.V_region (by kernel_rfl) ?_
    refine Pl.qA_go trivial rfl ?_
    refine Pl.qA_ln Tryd.underlying22 trivial rfl rfl rfl rfl rfl ?_
    refine Pl.qA_b (v := .bool false) (fun X => Pl.r_lss (decide_eq_false (by omega)) X) trivial rfl rfl rfl rfl rfl rfl ?_
    refine Pl.pA_end ?_
    repeat refine Pl.V_seq ?_
    refine Pl.V_false rfl ?_
    repeat refine Pl.V_seq ?_
    refine Pl.V_exit ?_
    obtain rfl : j = bs.length := by omega
    rw [List.take_length] at *
    repeat refine Pl.V_seq ?_
    refine Pl.V_region (by kernel_rfl) ?_
    refine Pl.qA_go trivial rfl ?_
    refine Pl.qA_b (v := .int .u32 ((T.csum bs : Nat) : Int)) (fun X => Pl.r_xor32 (a := T.crc 4294967295 (T.nb bs)) (b := 4294967295) (by omega) (by omega) rfl rfl rfl X) trivial rfl rfl rfl rfl rfl rfl ?_
    refine Pl.qA_go trivial rfl ?_
    refine Pl.pA_end ?_
    exact Pl.post_ret rfl rfl ⟨rfl, rfl⟩
end Go.Proofs.YtmioaeaobefphaaDoor
