/- Lengths of powers of 2; the row of a question; a question among the arguments. -/
import Derived.Test.YtofhpfmgopmcmaaDoorL1
namespace Go.Proofs.YtofhpfmgopmcmaaDoor
open Go.ChangeShapes Go.WideShapes Go.ChangeAt Go.RowKit
set_option linter.unusedVariables false
set_option maxHeartbeats 400000

theorem log_calls (w : World) (n k : Nat) (hn : n = 2 ^ k) (hk : k ≤ 16) :
    Calls Tryd.prog 26 #[.int .i64 (n : Nat)] w fun e w' => e = .returned (.int .i64 (k : Nat)) ∧ w = w' := by
  have HN := Lib.hid hn
  clear hn
  go_enter Tryd.func26, Tryd.ntmps26
  go_wp2
  go_loop [3] (fun t => ∃ j : Nat, j ≤ k ∧ t = .int .i64 (j : Nat)) (fun t => k - (intOf t).toNat)
  case atStart => exact ⟨0, Nat.zero_le _, rfl⟩
  case round =>
    obtain ⟨j, hj, rfl⟩ := hrel
    obtain ⟨q, hq⟩ : ∃ q, 2 ^ j = q := ⟨_, rfl⟩
    have hq1 : q ≤ 65536 := by rw [← hq]; exact Nat.pow_le_pow_right (n := 2) (by decide) (show j ≤ 16 by omega)
    have hsh : (2 : Int) ^ j = (q : Int) := by rw [← hq, Int.natCast_pow]; rfl
    have hjw : IntKind.u64.wrap (j : Int) = (j : Int) := by rw [IntKind.wrap_u64]; omega
    by_cases e : j = k
    · subst e
      have he : ((n : Int) == (q : Int)) = true := by rw [beq_iff_eq, HN.out, hq]
      have HQ := Lib.hid hq
      clear hq
      go_wp2
      go_ret
      exact ⟨rfl, rfl⟩
    · have he : ((n : Int) == (q : Int)) = false := by
        rw [beq_eq_false_iff_ne]
        intro h
        have h2 : 2 ^ k = 2 ^ j := by rw [← HN.out, hq]; omega
        exact e ((Nat.pow_right_inj (by decide : 1 < 2)).1 h2.symm)
      have HQ := Lib.hid hq
      clear hq
      go_wp2
      go_round
      case rel => exact ⟨j + 1, by omega, by go_num⟩
      case measure => simp [intOf]; omega
theorem log_B (w : World) (n k : Nat) (hn : n = 2 ^ k) (hk : k ≤ 16) :
    Calls Tryd.prog 26 #[.int .i64 (n : Nat)] w fun e w' => e = .returned (.int .i64 (k : Nat)) ∧ Ext w w' :=
  (log_calls w n k hn hk).mono fun e w' ⟨h1, h2⟩ => ⟨h1, by rw [← h2]; exact Ext.refl w⟩

/-- The prime's number, and how many numbers, that a question names. -/
def ri (I : Int) : Nat := (I % 256).toNat % 3
def rk (K : Int) (m : Nat) : Nat := (K % 256).toNat % (m + 1)
theorem ri_lt (I : Int) : ri I < 3 := Nat.mod_lt _ (by decide)
theorem rk_le (K : Int) (m : Nat) : rk K m ≤ m := by have := Nat.mod_lt (K % 256).toNat (show 0 < m + 1 by omega); unfold rk; omega

theorem keepA {w x y : World} {B : Nat} {v0 v1 v2 v3 : Value} (h : (B < x.heap.size ∧ x.cell? ⟨B, 0, none⟩ = some v0 ∧ x.cell? ⟨B, 1, none⟩ = some v1 ∧ x.cell? ⟨B, 2, none⟩ = some v2 ∧ x.cell? ⟨B, 3, none⟩ = some v3) ∧ Ext w x) (hB : Ext x y) :
    (B < y.heap.size ∧ y.cell? ⟨B, 0, none⟩ = some v0 ∧ y.cell? ⟨B, 1, none⟩ = some v1 ∧ y.cell? ⟨B, 2, none⟩ = some v2 ∧ y.cell? ⟨B, 3, none⟩ = some v3) ∧ Ext w y := by
  obtain ⟨⟨h0, h1, h2, h3, h4⟩, h6⟩ := h
  have hc := fun o => hB.cell (p := ⟨B, o, none⟩) h0
  exact ⟨⟨Nat.lt_of_lt_of_le h0 hB.size, by rw [hc]; exact h1, by rw [hc]; exact h2, by rw [hc]; exact h3, by rw [hc]; exact h4⟩, h6.below hB⟩

set_option maxRecDepth 100000 in
set_option maxHeartbeats 2000000 in
theorem row_calls (w : World) (I K : Int) (sl : Value) (bk : Bool) (xs : List Nat) (hI : (Lit.int .i64 I).wf = true) (hK : (Lit.int .i64 K).wf = true) (hu : U w sl xs) (m : Nat) (hm : m ≤ 16) :
    Calls Tryd.prog 25 #[.agg #[.int .i64 I, .int .i64 K, sl, .bool bk], .int .i64 (m : Nat)] w fun e w' => (∃ u, e = .returned (.tuple #[.int .i64 (ri I : Nat), u]) ∧ U w' u (rowv (fd (ri I)).p (rk K m) xs)) ∧ Ext w w' := by
  obtain ⟨A, c, rfl, hc⟩ := hu.shape
  have hi := ri_lt I
  have hkm := rk_le K m
  have hI1 : 0 ≤ I % 256 ∧ I % 256 < 256 := by omega
  have hK1 : 0 ≤ K % 256 ∧ K % 256 < 256 := by omega
  have hri : (I % 256) % 3 = ((ri I : Nat) : Int) := by unfold ri; omega
  have hrk : (K % 256) % ((m : Int) + 1) = ((rk K m : Nat) : Int) := by unfold rk; rw [Int.natCast_emod]; congr 1; omega
  have hrt : (K % 256).tmod ((m : Int) + 1) = ((rk K m : Nat) : Int) := by rw [Int.tmod_eq_emod_of_nonneg (by omega)]; exact hrk
  have ha := i64_and255 I
  have hb := i64_and255 K
  have hR := Lib.hid (fun W (h : U W (.slice A xs.length c) xs) => rrow_calls W (ri I) (rk K m) hi (by omega) _ xs h)
  generalize ri I = i at *
  generalize rk K m = k at *
  generalize xs.length = L at *
  obtain ⟨x, hx⟩ : ∃ x, I % 256 = x := ⟨_, rfl⟩
  obtain ⟨y, hy⟩ : ∃ y, K % 256 = y := ⟨_, rfl⟩
  rw [hx] at hI1 hri ha
  rw [hy] at hK1 hrk hrt hb
  have hyw : IntKind.i64.wrap y = y := IntWalk.i64_in _ (by omega)
  have hmw : IntKind.i64.wrap ((m : Int) + 1) = (m : Int) + 1 := IntWalk.i64_in _ (by omega)
  have hkw : IntKind.i64.wrap (k : Int) = (k : Int) := IntWalk.i64_in _ (by omega)
  have hm0 : ¬ ((m : Int) + 1 = 0) := by omega
  have hm0b : (((m : Int) + 1) == 0) = false := by rw [beq_eq_false_iff_ne]; omega
  have hE := ((Ext.refl w).alloc (.cells #[.int .i64 I, .int .i64 K, .slice A L c, .bool bk] 24))
  have hS0 : (w.heap.size < (w.alloc (.cells #[.int .i64 I, .int .i64 K, .slice A L c, .bool bk] 24)).drew.heap.size ∧ (w.alloc (.cells #[.int .i64 I, .int .i64 K, .slice A L c, .bool bk] 24)).drew.cell? ⟨w.heap.size, 0, none⟩ = some (.int .i64 I) ∧ (w.alloc (.cells #[.int .i64 I, .int .i64 K, .slice A L c, .bool bk] 24)).drew.cell? ⟨w.heap.size, 1, none⟩ = some (.int .i64 K) ∧ (w.alloc (.cells #[.int .i64 I, .int .i64 K, .slice A L c, .bool bk] 24)).drew.cell? ⟨w.heap.size, 2, none⟩ = some (.slice A L c) ∧ (w.alloc (.cells #[.int .i64 I, .int .i64 K, .slice A L c, .bool bk] 24)).drew.cell? ⟨w.heap.size, 3, none⟩ = some (.bool bk)) ∧ Ext w (w.alloc (.cells #[.int .i64 I, .int .i64 K, .slice A L c, .bool bk] 24)).drew :=
    ⟨⟨by simp, by go_simp, by go_simp, by go_simp, by go_simp⟩, hE.drew⟩
  have hu2 : U (w.alloc (.cells #[.int .i64 I, .int .i64 K, .slice A L c, .bool bk] 24)).drew (.slice A L c) xs := hu.below hE.drew
  clear hx hy hE
  go_enter Tryd.func25, Tryd.ntmps25
  go_wp2
  go_region_held3 (fun X => (w.heap.size < X.heap.size ∧ X.cell? ⟨w.heap.size, 0, none⟩ = some (.int .i64 I) ∧ X.cell? ⟨w.heap.size, 1, none⟩ = some (.int .i64 K) ∧ X.cell? ⟨w.heap.size, 2, none⟩ = some (.slice A L c) ∧ X.cell? ⟨w.heap.size, 3, none⟩ = some (.bool bk)) ∧ Ext w X)
    (first
      | exact hS0
      | exact keepA (by assumption) (by assumption))
    (first
      | (go_at_call 23; ((with_reducible refine (hR.out _ hu2).mono ?_); rintro e w1 ⟨⟨u, rfl, hu3⟩, hB⟩)))
  have HF : Hid (∃ u', Ending.returned (.tuple #[.int .i64 (i : Nat), u]) = .returned (.tuple #[.int .i64 (i : Nat), u']) ∧ U w1 u' (rowv (fd i).p k xs)) := ⟨_, rfl, hu3⟩
  have hEE : Ext w w1 := by go_split_ands; assumption
  clear hu3
  go_wp2
  go_ret2
  exact ⟨HF.out, hEE⟩
theorem row_B (w : World) (I K : Int) (sl : Value) (bk : Bool) (xs : List Nat) (hI : (Lit.int .i64 I).wf = true) (hK : (Lit.int .i64 K).wf = true) (hu : U w sl xs) (m : Nat) (hm : m ≤ 16) (i k : Nat) (hi : ri I = i) (hk : rk K m = k) :
    Calls Tryd.prog 25 #[.agg #[.int .i64 I, .int .i64 K, sl, .bool bk], .int .i64 (m : Nat)] w fun e w' => ∃ u, e = .returned (.tuple #[.int .i64 (i : Nat), u]) ∧ U w' u (rowv (fd i).p k xs) ∧ Ext w w' := by
  subst hi hk
  exact (row_calls w I K sl bk xs hI hK hu m hm).mono fun e w' ⟨⟨u, h1, h2⟩, h3⟩ => ⟨u, h1, h2, h3⟩
theorem rrow_B (w : World) (i k : Nat) (hi : i < 3) (hk : k ≤ 16) (v : Value) (l : List Nat) (hu : U w v l) :
    Calls Tryd.prog 23 #[.int .i64 (i : Nat), v, .int .i64 (k : Nat)] w fun e w' => ∃ u, e = .returned u ∧ U w' u (rowv (fd i).p k l) ∧ Ext w w' :=
  (rrow_calls w i k hi hk v l hu).mono fun e w' ⟨⟨u, h1, h2⟩, h3⟩ => ⟨u, h1, h2, h3⟩

/-- The transform, either way. -/
def tfl (i k : Nat) (b : Bool) (l : List Nat) : List Nat := if b then trv (fd i).p (bt (fd i) k) (sh (fd i) (2 ^ k)) (2 ^ k) l else trv (fd i).p (rt (fd i) k) 1 (2 ^ k) l
theorem tfl_len (i k : Nat) (b : Bool) (l : List Nat) : (tfl i k b l).length = 2 ^ k := by unfold tfl; split <;> exact trv_len _ _ _ _ _
theorem tfl_lt (i k : Nat) (b : Bool) (l : List Nat) : ∀ x ∈ tfl i k b l, x < (fd i).p := by
  have := (fd_fld i).good.p0
  unfold tfl; split
  · exact trv_lt _ _ _ _ _ (by omega)
  · exact trv_lt _ _ _ _ _ (by omega)
theorem tA_B (w : World) (hg : Gl w) (i k : Nat) (hi : i < 3) (hk : k ≤ 16) (v : Value) (l : List Nat) (hl : l.length = 2 ^ k) (hlt : ∀ x ∈ l, x < (fd i).p) (hu : U w v l) (b : Bool) :
    Calls Tryd.prog 21 #[.int .i64 (i : Nat), v, .bool b] w fun e w' => ∃ u, e = .returned (.tuple #[u, .int .i64 0]) ∧ U w' u (tfl i k b l) ∧ Ext w w' := by
  cases b
  · exact tF_B w hg i k hi hk v l hl hlt hu _ rfl
  · exact tB_B w hg i k hi hk v l hl hlt hu _ rfl

theorem open_limbs1 {H : Type} {enc : TypeId × Value → H} {W : World} {fuel : Nat} {v : Value} {y : DataW H × List MemPlace} (hf : DataW.trod enc Tryd.prog W 0 (fun _ => true) true fuel 22 [v] = some y) :
    ∃ xs : List Nat, U W v xs := by
  rcases open_ints Tryd.underlying22 Tryd.underlying27 cells32 hf with ⟨hcs, hx⟩ | ⟨a, len, cap', zs, hcs, _, hl, hm, hz, hx, hcell, hwz⟩
  · simp at hcs
    subst hcs
    exact ⟨[], U.nil_ _ _ _⟩
  · simp at hcs
    subst hcs
    simp only [if_true] at hz
    have hlen : ((zs.take len).map Int.toNat).length = len := by simp; omega
    have hb : ∀ z ∈ zs, 0 ≤ z ∧ z < 4294967296 := fun z hzz => by have := bounds_u32 (hwz z hzz); omega
    refine ⟨(zs.take len).map Int.toNat, some a, cap', by rw [hlen], ⟨by rw [hlen]; exact hl, by rw [hlen]; unfold maxLen at hm; omega⟩, ?_, fun h0 => ⟨a, rfl, ?_, fun j hj => ?_⟩⟩
    · intro x hx'
      obtain ⟨z, hz1, rfl⟩ := List.mem_map.1 hx'
      have := hb z (List.mem_of_mem_take hz1)
      omega
    · rw [hlen] at h0
      have hc := hcell 0 (by omega)
      rw [addr_add_zero] at hc
      unfold World.cell? at hc
      rcases Nat.lt_or_ge a.block W.heap.size with h | h
      · exact h
      · rw [Array.getElem?_eq_none h] at hc; cases hc
    · rw [hlen] at hj
      have hjz : j < zs.length := by omega
      have e : lb ((zs.take len).map Int.toNat) j = (zs.getD j 0).toNat := by
        simp [lb, hj, hjz]
      rw [hcell j hjz, e]
      have hmem : zs.getD j 0 ∈ zs := by simp [hjz]
      have := hb _ hmem
      rw [show (((zs.getD j 0).toNat : Nat) : Int) = zs.getD j 0 by omega]

theorem open_ask {H : Type} {enc : TypeId × Value → H} {W : World} {base : Nat} {v : Value} {d : DataW H} {ps : List MemPlace} (hval : Value.okWide Tryd.prog W .any base 24 v) (h : DataW.Trod enc Tryd.prog W 0 (fun _ => true) true 24 v d ps)
    (hlt : ∀ p ∈ ps, p.block < W.heap.size) : ∃ (I K : Int) (sl : Value) (bk : Bool) (xs : List Nat), v = .agg #[.int .i64 I, .int .i64 K, sl, .bool bk] ∧ (Lit.int .i64 I).wf = true ∧ (Lit.int .i64 K).wf = true ∧ U W sl xs := by
  obtain ⟨v0, v1, v2, v3, y0, y1, y2, y3, n, rfl, rfl, rfl, h0, h1, h2, h3⟩ := Joins.open_agg4 Tryd.underlying24 (by kernel_rfl) (by kernel_rfl) hval h
  obtain ⟨I, e0, _, hI⟩ := DataW.trod_int Tryd.underlying3 h0
  obtain ⟨K, e1, _, hK⟩ := DataW.trod_int Tryd.underlying3 h1
  obtain ⟨xs, hu⟩ := open_limbs1 h2
  obtain ⟨b, e3, _⟩ := DataW.trod_bool Tryd.underlying4 h3
  simp at e0 e1 e3
  subst e0 e1 e3
  exact ⟨I, K, v2, b, xs, rfl, hI, hK, hu⟩
end Go.Proofs.YtofhpfmgopmcmaaDoor
