/- The program's answers and the document's, for any question at all. -/
import Derived.Test.YtofhpfmgopmcmaaDoorP4
import Derived.Test.YtofhpfmgopmcmaaDoorM6
import Derived.Test.YtofhpfmgopmcmaaDoorSums
namespace Go.Proofs.YtofhpfmgopmcmaaDoor
open Go.RowKit
set_option linter.unusedVariables false
set_option maxHeartbeats 400000

theorem rrootN_B (w : World) (i k : Int) (hi : i < 0 ∨ 3 ≤ i ∨ k < 0 ∨ 20 < k) :
    Calls Tryd.prog 17 #[.int .i64 i, .int .i64 k] w fun e w' => e = .returned (.int .u32 0) ∧ Ext w w' := by
  have HB := Ext.refl w
  by_cases h1 : i < 0 ∨ 3 ≤ i
  · have hP := Lib.hid (fun W => rprimeN_B W i h1)
    clear hi h1
    go_enter Tryd.func17, Tryd.ntmps17
    go_wp2_with (fail)
    refine (hP.out _).mono ?_
    rintro x w1 ⟨rfl, hB⟩
    replace HB := HB.below hB
    clear hB
    go_wp2
    go_ret
    exact ⟨rfl, HB⟩
  · obtain ⟨n, rfl⟩ := Int.eq_ofNat_of_zero_le (show 0 ≤ i by omega)
    have hn : n < 3 := by omega
    have p0 := (fd_fld n).good.p0
    have p1 := (fd_fld n).good.p1
    have hP := Lib.hid (fun W => rprime_B W n hn (fd n).p rfl)
    generalize (fd n).p = p at *
    have hpz : ((p : Int) == 0) = false := by rw [beq_eq_false_iff_ne]; omega
    have hpw : IntKind.u64.wrap (p : Int) = (p : Int) := by rw [IntKind.wrap_u64]; omega
    by_cases h2 : k < 0
    · have hd : decide (k < 0) = true := by rw [decide_eq_true_iff]; exact h2
      clear hi h1
      go_enter Tryd.func17, Tryd.ntmps17
      go_wp2_with (fail)
      refine (hP.out _).mono ?_
      rintro x w1 ⟨rfl, hB⟩
      replace HB := HB.below hB
      clear hB
      go_wp2
      go_ret
      exact ⟨rfl, HB⟩
    · have hd : decide (k < 0) = false := by rw [decide_eq_false_iff_not]; exact h2
      have h3 : 20 < k := by omega
      have hd2 : decide (20 < k) = true := by rw [decide_eq_true_iff]; exact h3
      clear hi h1
      go_enter Tryd.func17, Tryd.ntmps17
      go_wp2_with (fail)
      refine (hP.out _).mono ?_
      rintro x w1 ⟨rfl, hB⟩
      replace HB := HB.below hB
      clear hB
      go_wp2
      go_ret
      exact ⟨rfl, HB⟩

theorem prime_any (I : Int) : ∃ p : Nat, (∀ W, Gl W → Calls Tryd.prog 14 #[.int .i64 I] W fun e w' => e = .returned (.int .u32 (p : Nat)) ∧ Ext W w') ∧
    (∀ W, Calls Tryd.prog 15 #[.int .i64 I] W fun e w' => e = .returned (.int .u32 (p : Nat)) ∧ Ext W w') := by
  by_cases h : I < 0 ∨ 3 ≤ I
  · exact ⟨0, fun W _ => primeN_B W I h, fun W => rprimeN_B W I h⟩
  · obtain ⟨n, rfl⟩ := Int.eq_ofNat_of_zero_le (show 0 ≤ I by omega)
    exact ⟨_, fun W hg => prime_B W hg n (by omega) _ rfl, fun W => rprime_B W n (by omega) _ rfl⟩
theorem root_any (I K : Int) : ∃ p : Nat, (∀ W, Gl W → Calls Tryd.prog 16 #[.int .i64 I, .int .i64 K] W fun e w' => e = .returned (.int .u32 (p : Nat)) ∧ Ext W w') ∧
    (∀ W, Calls Tryd.prog 17 #[.int .i64 I, .int .i64 K] W fun e w' => e = .returned (.int .u32 (p : Nat)) ∧ Ext W w') := by
  by_cases h : I < 0 ∨ 3 ≤ I ∨ K < 0 ∨ 20 < K
  · exact ⟨0, fun W _ => rootN_B W I K h, fun W => rrootN_B W I K h⟩
  · obtain ⟨n, rfl⟩ := Int.eq_ofNat_of_zero_le (show 0 ≤ I by omega)
    obtain ⟨k, rfl⟩ := Int.eq_ofNat_of_zero_le (show 0 ≤ K by omega)
    exact ⟨_, fun W hg => root_B W hg n k (by omega) (by omega) _ rfl, fun W => rroot_B W n k (by omega) (by omega) _ rfl⟩

/-- The transform and the document's tell the same. -/
theorem trans_any (I : Int) (l : List Nat) (hlen : l.length < 4294967296) (b : Bool) : ∃ (out : List Nat) (e : Int),
    (∀ W v, Gl W → U W v l → Calls Tryd.prog 21 #[.int .i64 I, v, .bool b] W fun x w' => ∃ A c, x = .returned (.tuple #[.slice A out.length c, .int .i64 e]) ∧ U w' (.slice A out.length c) out ∧ Ext W w') ∧
    (∀ W v, U W v l → Calls Tryd.prog 22 #[.int .i64 I, v, .bool b] W fun x w' => ∃ A c, x = .returned (.tuple #[.slice A out.length c, .int .i64 e]) ∧ U w' (.slice A out.length c) out ∧ Ext W w') := by
  have hno : ∀ {f : Nat} {as_ : Array Value} {W : World}, (Calls Tryd.prog f as_ W fun x w' => x = .returned (.tuple #[.slice none 0 0, .int .i64 1]) ∧ Ext W w') → Calls Tryd.prog f as_ W fun x w' => ∃ A c, x = .returned (.tuple #[.slice A ([] : List Nat).length c, .int .i64 1]) ∧ U w' (.slice A ([] : List Nat).length c) [] ∧ Ext W w' :=
    fun h => h.mono fun x w' ⟨h1, h2⟩ => ⟨none, 0, h1, U.nil_ _ _ _, h2⟩
  by_cases h : I < 0 ∨ 3 ≤ I
  · exact ⟨[], 1, fun W v _ hu => hno (tI_B W I h v l hlen hu b), fun W v hu => hno (rtransN_B W I v b (may_i W I h v l hu))⟩
  · obtain ⟨i, rfl⟩ := Int.eq_ofNat_of_zero_le (show 0 ≤ I by omega)
    have hi : i < 3 := by omega
    by_cases h2 : ∃ k, k ≤ 16 ∧ l.length = 2 ^ k
    · obtain ⟨k, hk, hl⟩ := h2
      by_cases h3 : ∀ x ∈ l, x < (fd i).p
      · refine ⟨tfl i k b l, 0, fun W v hg hu => (tA_B W hg i k hi hk v l hl h3 hu b).mono ?_, fun W v hu => (rtrans_B W i k hi hk v l hl h3 hu b).mono ?_⟩
        · rintro x w' ⟨u, rfl, hz, hB⟩
          obtain ⟨A3, c3, e3, _⟩ := id hz
          subst e3
          exact ⟨A3, c3, rfl, hz, hB⟩
        · rintro x w' ⟨u, rfl, hz, hB⟩
          obtain ⟨A3, c3, e3, _⟩ := id hz
          subst e3
          exact ⟨A3, c3, rfl, hz, hB⟩
      · have hbad : ∃ j, j < l.length ∧ (fd i).p ≤ lb l j := by
          refine Classical.byContradiction fun hn => h3 fun x hx => ?_
          obtain ⟨j, hj, e⟩ := List.mem_iff_getElem.1 hx
          refine Nat.lt_of_not_le fun hle => hn ⟨j, hj, ?_⟩
          unfold lb
          rw [List.getElem?_eq_getElem hj]
          simpa [e] using hle
        refine ⟨[], 1, fun W v hg hu => hno (trans_big W hg i k hi hk v l hl hu b hbad), fun W v hu => hno (rtransN_B W i v b (may_num W i k hi hk v l hl hu false ?_))⟩
        rw [decide_eq_false_iff_not]
        obtain ⟨j, hj, hle⟩ := hbad
        intro hall
        have := hall j hj
        omega
    · have hs : ∀ k, k ≤ 16 → l.length ≠ 2 ^ k := fun k hk e => h2 ⟨k, hk, e⟩
      exact ⟨[], 1, fun W v _ hu => hno (tL_B W i (by omega) (by omega) v l hlen hu b hs), fun W v hu => hno (rtransN_B W i v b (may_len W i hi v l hlen hu hs))⟩

theorem rconv_all (w : World) (v u : Value) (a b : List Nat) (h : U w v a) (g : U w u b) (hal : a.length ≤ 1000000) (hbl : b.length ≤ 1000000) (cs : List Nat) (hc : cvs a b = cs) :
    Calls Tryd.prog 20 #[v, u] w fun e w' => ∃ z, e = .returned z ∧ U3 w' z cs ∧ Ext w w' := by
  by_cases h0 : a.length = 0 ∨ b.length = 0
  · rw [cvs_nil a b h0] at hc
    subst hc
    obtain ⟨A, c, rfl, hcc⟩ := h.shape
    obtain ⟨A2, c2, rfl, hcc2⟩ := g.shape
    have hE := Ext.refl w
    clear h g hcc hcc2
    have HN : Hid (U3 w (.slice none 0 0) []) := U3.nil_ _ _ _
    generalize a.length = na at *
    generalize b.length = nb at *
    by_cases h1 : na = 0
    · subst h1
      go_enter Tryd.func20, Tryd.ntmps20
      go_wp2
      go_ret
      exact ⟨_, rfl, HN.out, hE⟩
    · have h2 : nb = 0 := by omega
      subst h2
      have hz : (((na : Nat) : Int) == 0) = false := by rw [beq_eq_false_iff_ne]; omega
      clear h0
      go_enter Tryd.func20, Tryd.ntmps20
      go_wp2
      go_ret
      exact ⟨_, rfl, HN.out, hE⟩
  · have ha0 : 0 < a.length := by omega
    have hb0 : 0 < b.length := by omega
    rw [cvs_pos a b ha0 hb0] at hc
    subst hc
    exact (rconv_pos w v u a b h g ha0 hb0 hal hbl).mono fun e w' ⟨⟨gg, h1, h2⟩, h3⟩ => ⟨_, h1, h2.toU, h3⟩
theorem rconv_N (W : World) (A A2 : Option Addr) (na nb ca cb : Nat) (a b cs : List Nat) (n : Nat) (h1 : U W (.slice A na ca) a) (h2 : U W (.slice A2 nb cb) b) (hna : na ≤ 30000) (hnb : nb ≤ 30000) (hc : cvs a b = cs) (hn : cs.length = n) :
    Calls Tryd.prog 20 #[.slice A na ca, .slice A2 nb cb] W fun e w' => ∃ A3 c3, e = .returned (.slice A3 n c3) ∧ U3 w' (.slice A3 n c3) cs ∧ Ext W w' := by
  have e1 : a.length = na := by obtain ⟨_, _, e, _⟩ := h1; injection e with _ e _; exact e.symm
  have e2 : b.length = nb := by obtain ⟨_, _, e, _⟩ := h2; injection e with _ e _; exact e.symm
  refine (rconv_all W _ _ a b h1 h2 (by omega) (by omega) cs hc).mono ?_
  rintro e w' ⟨z, rfl, hz, hB⟩
  obtain ⟨A3, c3, e3, _⟩ := id hz
  rw [hn] at e3
  subst e3
  exact ⟨A3, c3, rfl, hz, hB⟩
theorem limbs_L (m : Nat) (hm : m ≤ 1000000) (w : World) (v : Value) (xs a : List Nat) (n : Nat) (ha : xs.take m = a) (hn : a.length = n) (hu : U w v xs) :
    Calls Tryd.prog 13 #[v, .int .i64 (m : Nat)] w fun e w' => ∃ A c, e = .returned (.slice A n c) ∧ U w' (.slice A n c) a ∧ Ext w w' := by
  refine (limbs_B w v xs m hm hu).mono ?_
  rintro e w' ⟨u, rfl, hz, hB⟩
  rw [ha] at hz
  obtain ⟨A3, c3, e3, _⟩ := id hz
  rw [hn] at e3
  subst e3
  exact ⟨A3, c3, rfl, hz, hB⟩
theorem rrow_N (w : World) (i k n : Nat) (hi : i < 3) (hk : k ≤ 16) (v : Value) (l : List Nat) (hu : U w v l) (m : List Nat) (hm : rowv (fd i).p k l = m) (hn : m.length = n) :
    Calls Tryd.prog 23 #[.int .i64 (i : Nat), v, .int .i64 (k : Nat)] w fun e w' => ∃ A c, e = .returned (.slice A n c) ∧ U w' (.slice A n c) m ∧ Ext w w' := by
  refine (rrow_B w i k hi hk v l hu).mono ?_
  rintro e w' ⟨u, rfl, hz, hB⟩
  rw [hm] at hz
  obtain ⟨A3, c3, e3, _⟩ := id hz
  rw [hn] at e3
  subst e3
  exact ⟨A3, c3, rfl, hz, hB⟩
end Go.Proofs.YtofhpfmgopmcmaaDoor
