/- Proved: the statement NatTells: whatever limbs: whether they are a right natural, and all that is done with any two, is as the document says. No condition. -/
import Derived.Test.YtnjkdplhoihkiaaH
import Derived.Test.YtnjkdplhoihkiaaF
import Derived.Test.YtnjkdplhoihkiaaL2
import Derived.Test.YtnjkdplhoihkiaaQ7
import Derived.Deep.Cut
import Derived.Deep.RegionWith
import Derived.WideKeyPair
namespace Go.Proofs.Ytnjkdplhoihkiaa
open Go.ChangeShapes Go.WideShapes Go.ChangeAt Go.RowKit
set_option linter.unusedVariables false

theorem w16 (a : Nat) (h : a < 65536) : IntKind.i64.wrap (a : Int) = (a : Int) := by rw [IntKind.wrap_i64]; omega
theorem rem2001 (a : Nat) (h : a < 65536) : (IntKind.i64.wrap (a : Int)).tmod 2001 = ((a % 2001 : Nat) : Int) := by
  rw [w16 a h, Int.tmod_eq_emod_of_nonneg (by omega)]; omega
theorem sub2100m (a : Nat) (h : a < 65536) : (IntKind.i64.wrap (a : Int)).tmod 2100 - 50 = ((a % 2100 : Nat) : Int) - 50 := by
  rw [w16 a h, Int.tmod_eq_emod_of_nonneg (by omega)]; omega
theorem sub2100 (a : Nat) (h : a < 65536) : IntKind.i64.wrap ((IntKind.i64.wrap (a : Int)).tmod 2100 - 50) = ((a % 2100 : Nat) : Int) - 50 := by
  rw [sub2100m a h, IntKind.wrap_i64]; omega
theorem slice_len {A : Option Addr} {a b c : Nat} (h : a = b) : Value.slice A a c = Value.slice A b c := by rw [h]
set_option maxRecDepth 100000 in
set_option maxHeartbeats 4000000 in
theorem NatTells_walk (w : World) (v0 : Value) (xs0 : List Nat) (h0 : U w v0 xs0) (v1 : Value) (xs1 : List Nat) (h1 : U w v1 xs1) (a b : Nat) (ha : a < 65536) (hb : b < 65536) :
    Calls Try.prog 3 #[v0, v1, .agg #[.int .u16 (a : Int), .int .u16 (b : Int)]] w fun e w' => e = .returned (.bool true) ∧ Ext w w' := by
  have HB := Ext.refl w
  have b0 := h0.lim
  have b1 := h1.lim
  obtain ⟨L0, eL0⟩ : ∃ L, min xs0.length 60 = L := ⟨_, rfl⟩
  obtain ⟨L1, eL1⟩ : ∃ L, min xs1.length 60 = L := ⟨_, rfl⟩
  obtain ⟨A0, c0, rfl, ⟨hz0, hz1⟩, -, -⟩ := id h0
  obtain ⟨A1, c1, rfl, ⟨hz2, hz3⟩, -, -⟩ := id h1
  have q0 : Hid (xs0.length ≤ 60 ∧ L0 = xs0.length ∨ 60 ≤ xs0.length ∧ L0 = 60) := by rw [Hid]; omega
  have q1 : Hid (xs1.length ≤ 60 ∧ L1 = xs1.length ∨ 60 ≤ xs1.length ∧ L1 = 60) := by rw [Hid]; omega
  have hl0 : L0 ≤ xs0.length := by omega
  have hl1 : L1 ≤ xs1.length := by omega
  have hk0 : L0 ≤ 60 := by omega
  have hk1 : L1 ≤ 60 := by omega
  have u0 : U w (.slice A0 L0 c0) (xs0.take L0) := h0.take hl0 (by omega)
  have u1 : U w (.slice A1 L1 c1) (xs1.take L1) := h1.take hl1 (by omega)
  clear h0 h1 eL0 eL1
  go_enter Try.func3, Try.ntmps3
  go_wp2_with (fail)
  refine (head_calls _).mono ?_
  rintro e w1 ⟨rfl, hB⟩
  have hc0 : w1.cell? ⟨w.heap.size, 0, none⟩ = some (.int .u16 (a : Int)) := (hB.cell (p := ⟨w.heap.size, 0, none⟩) (by simp)).trans (by simp)
  have hc1 : w1.cell? ⟨w.heap.size, 1, none⟩ = some (.int .u16 (b : Int)) := (hB.cell (p := ⟨w.heap.size, 1, none⟩) (by simp)).trans (by simp)
  have hs1 : w.heap.size < w1.heap.size := Nat.lt_of_lt_of_le (by simp) hB.size
  replace HB := (HB.alloc _).below hB
  replace u0 := (U.alloc u0 _).below hB
  replace u1 := (U.alloc u1 _).below hB
  clear hB
  go_wp2_with (fail)
  go_cut [8, 9] from 23 (fun s8 s9 wx => s8 = .slice A0 L0 c0 ∧ s9 = .slice A1 L1 c1 ∧ Ext w1 wx)
  case first =>
    go_region
    all_goals go_wp2
    all_goals go_meet
    all_goals exact ⟨slice_len (by have := q0.out; omega), slice_len (by have := q1.out; omega), ext_drewN w1 1⟩
  case rest =>
    obtain ⟨rfl, rfl, hB⟩ := hcut
    replace HB := HB.below hB
    replace u0 := u0.below hB
    replace u1 := u1.below hB
    replace hc0 := (hB.cell (p := ⟨w.heap.size, 0, none⟩) hs1).trans hc0
    replace hc1 := (hB.cell (p := ⟨w.heap.size, 1, none⟩) hs1).trans hc1
    replace hs1 := Nat.lt_of_lt_of_le hs1 hB.size
    clear hB
    have v60 : (xs0.take L0).length ≤ 60 := by rw [List.length_take]; omega
    have v61 : (xs1.take L1).length ≤ 60 := by rw [List.length_take]; omega
    have n60 := cutN_len xs0 L0 b0
    have n61 := cutN_len xs1 L1 b1
    rw [cutN] at n60 n61
    generalize xs0.take L0 = ys0 at *
    generalize xs1.take L1 = ys1 at *
    obtain ⟨N0, hN0⟩ : ∃ N, val ys0 = N := ⟨_, rfl⟩
    obtain ⟨N1, hN1⟩ : ∃ N, val ys1 = N := ⟨_, rfl⟩
    rw [hN0] at n60
    rw [hN1] at n61
    obtain ⟨r0, hr0⟩ : ∃ r, rightB ys0 = r := ⟨_, rfl⟩
    have HN0 := Lib.hid hN0
    have HN1 := Lib.hid hN1
    have HR0 := Lib.hid hr0
    clear hN0 hN1 hr0 q0 q1 b0 b1
    go_wp2_with (fail)
    refine (right_B _ _ _ u0 r0 HR0.out).mono ?_
    rintro e w1 ⟨rfl, hB⟩
    replace HB := HB.below hB
    replace u0 := u0.below hB
    replace u1 := u1.below hB
    replace hc0 := (hB.cell (p := ⟨w.heap.size, 0, none⟩) hs1).trans hc0
    replace hc1 := (hB.cell (p := ⟨w.heap.size, 1, none⟩) hs1).trans hc1
    replace hs1 := Nat.lt_of_lt_of_le hs1 hB.size
    clear hB
    go_wp2_with (fail)
    refine (rright_B _ _ _ u0 r0 HR0.out).mono ?_
    rintro e w2 ⟨rfl, hB⟩
    replace HB := HB.below hB
    replace u0 := u0.below hB
    replace u1 := u1.below hB
    replace hc0 := (hB.cell (p := ⟨w.heap.size, 0, none⟩) hs1).trans hc0
    replace hc1 := (hB.cell (p := ⟨w.heap.size, 1, none⟩) hs1).trans hc1
    replace hs1 := Nat.lt_of_lt_of_le hs1 hB.size
    clear hB
    go_wp2_with (fail)
    refine (make_B _ _ _ u0 N0 HN0.out).mono ?_
    rintro e w3 ⟨g1, rfl, hg1, hB⟩
    replace HB := HB.below hB
    replace u0 := u0.below hB
    replace u1 := u1.below hB
    replace hc0 := (hB.cell (p := ⟨w.heap.size, 0, none⟩) hs1).trans hc0
    replace hc1 := (hB.cell (p := ⟨w.heap.size, 1, none⟩) hs1).trans hc1
    replace hs1 := Nat.lt_of_lt_of_le hs1 hB.size
    clear hB
    go_wp2_with (fail)
    refine (rmake_B _ _ _ u0 (by omega) N0 HN0.out).mono ?_
    rintro e w4 ⟨g2, rfl, hg2, hB⟩
    replace HB := HB.below hB
    replace u0 := u0.below hB
    replace u1 := u1.below hB
    replace hg1 := hg1.below hB
    replace hc0 := (hB.cell (p := ⟨w.heap.size, 0, none⟩) hs1).trans hc0
    replace hc1 := (hB.cell (p := ⟨w.heap.size, 1, none⟩) hs1).trans hc1
    replace hs1 := Nat.lt_of_lt_of_le hs1 hB.size
    clear hB
    go_wp2_with (fail)
    refine (same_B _ _ _ _ _ hg1 hg2 true (decide_eq_true rfl)).mono ?_
    rintro e w5 ⟨rfl, hB⟩
    replace HB := HB.below hB
    replace u0 := u0.below hB
    replace u1 := u1.below hB
    replace hg1 := hg1.below hB
    replace hg2 := hg2.below hB
    replace hc0 := (hB.cell (p := ⟨w.heap.size, 0, none⟩) hs1).trans hc0
    replace hc1 := (hB.cell (p := ⟨w.heap.size, 1, none⟩) hs1).trans hc1
    replace hs1 := Nat.lt_of_lt_of_le hs1 hB.size
    clear hB
    go_wp2_with (fail)
    have u0d : U w5.drew (.slice A0 L0 c0) ys0 := u0
    have u1d : U w5.drew (.slice A1 L1 c1) ys1 := u1
    have HBd : Ext w w5.drew := HB.below (ext_drewN w5 1)
    have hc0d : w5.drew.cell? ⟨w.heap.size, 0, none⟩ = some (.int .u16 (a : Int)) := hc0
    have hc1d : w5.drew.cell? ⟨w.heap.size, 1, none⟩ = some (.int .u16 (b : Int)) := hc1
    go_cut [10, 11, 12, 13] from 23 (fun s10 s11 s12 s13 wx => Un wx s10 N0 ∧ Un wx s11 N1 ∧ s12 = .int .i64 ((a % 2001 : Nat) : Int) ∧ s13 = .int .i64 (((b % 2100 : Nat) : Int) - 50) ∧ Ext w wx)
    case first =>
      go_region_with (first
        | (go_at_call_of 17 (Value.slice A0 L0 c0)
           refine (rmake_B w5.drew _ _ u0d (by omega) N0 HN0.out).mono ?_
           rintro e wa ⟨x1, rfl, hx1, hB2⟩
           have hd0 := (hB2.cell (p := ⟨w.heap.size, 0, none⟩) hs1).trans hc0d
           have hd1 := (hB2.cell (p := ⟨w.heap.size, 1, none⟩) hs1).trans hc1d
           have hs2 := Nat.lt_of_lt_of_le hs1 hB2.size
           have HB2 := HBd.below hB2
           have u1e := u1d.below hB2
           clear hB2)
        | (go_at_call_of 17 (Value.slice A1 L1 c1)
           refine (rmake_B wa _ _ u1e (by omega) N1 HN1.out).mono ?_
           rintro e wb ⟨x2, rfl, hx2, hB3⟩
           have hd0' := (hB3.cell (p := ⟨w.heap.size, 0, none⟩) hs2).trans hd0
           have hd1' := (hB3.cell (p := ⟨w.heap.size, 1, none⟩) hs2).trans hd1
           have HB3 := HB2.below hB3
           have hx1' := hx1.below hB3
           clear hB3))
      all_goals go_wp2
      all_goals go_meet
      all_goals refine ⟨hx1', hx2, ?_, ?_, HB3⟩
      all_goals (first | rw [rem2001 a ha] | rw [sub2100 b hb] | rw [sub2100m b hb] | (go_num; omega))
    case rest =>
      clear HBd u0 u1 u0d u1d hc0 hc1 hc0d hc1d hs1 HB hg1 hg2 HN0 HN1 HR0
      rename_i wd
      obtain ⟨hx1, hx2, rfl, rfl, HB⟩ := hcut
      have R0 : a % 2001 ≤ 2000 := by omega
      have R1 : b % 2100 ≤ 2099 := by omega
      generalize a % 2001 = S at *
      generalize b % 2100 = T at *
      clear ha hb
      obtain ⟨lt, hlt⟩ : ∃ b, decide (N1 ≤ N0) = b := ⟨_, rfl⟩
      have HLT := Lib.hid hlt
      obtain ⟨kl, hkl⟩ : ∃ k : Int, ((lowN N0 : Nat) : Int) = k := ⟨_, rfl⟩
      have HKL := Lib.hid hkl
      obtain ⟨bl, hbl⟩ : ∃ b, lowB N0 = b := ⟨_, rfl⟩
      have HBL := Lib.hid hbl
      obtain ⟨kc, hkc⟩ : ∃ k : Int, cmpI N0 N1 = k := ⟨_, rfl⟩
      have HKC := Lib.hid hkc
      obtain ⟨kb, hkb⟩ : ∃ k : Int, ((blen N0 : Nat) : Int) = k := ⟨_, rfl⟩
      have HKB := Lib.hid hkb
      obtain ⟨kt, hkt⟩ : ∃ k : Int, ((bitN N0 ((T : Int) - 50) : Nat) : Int) = k := ⟨_, rfl⟩
      have HKT := Lib.hid hkt
      clear hlt hkl hbl hkc hkb hkt
      go_wp2_with (fail)
      refine (sub_B _ _ _ N0 N1 hx1 hx2 (by omega) lt HLT.out _ rfl).mono ?_
      rintro e w21 ⟨p, rfl, hp, hB⟩
      replace HB := HB.below hB
      replace hx1 := hx1.below hB
      replace hx2 := hx2.below hB
      clear hB
      go_wp2_with (fail)
      refine (rsub_B _ _ _ N0 N1 hx1 hx2 (by omega) (by omega) lt HLT.out _ rfl).mono ?_
      rintro e w22 ⟨q, rfl, hq, hB⟩
      replace HB := HB.below hB
      replace hx1 := hx1.below hB
      replace hx2 := hx2.below hB
      replace hp := hp.below hB
      clear hB
      go_wp2_with (fail)
      refine (low_B _ _ N0 hx1 kl bl HKL.out HBL.out).mono ?_
      rintro e w23 ⟨rfl, hB⟩
      replace HB := HB.below hB
      replace hx1 := hx1.below hB
      replace hx2 := hx2.below hB
      replace hp := hp.below hB
      replace hq := hq.below hB
      clear hB
      go_wp2_with (fail)
      refine (rlow_B _ _ N0 hx1 kl bl HKL.out HBL.out).mono ?_
      rintro e w24 ⟨rfl, hB⟩
      replace HB := HB.below hB
      replace hx1 := hx1.below hB
      replace hx2 := hx2.below hB
      replace hp := hp.below hB
      replace hq := hq.below hB
      clear hB
      go_wp2_with (fail)
      refine (same_B _ _ _ _ _ hp hq true (decide_eq_true rfl)).mono ?_
      rintro e w25 ⟨rfl, hB⟩
      replace HB := HB.below hB
      replace hx1 := hx1.below hB
      replace hx2 := hx2.below hB
      replace hp := hp.below hB
      replace hq := hq.below hB
      clear hB
      go_wp2_with (fail)
      refine (add_B _ _ _ N0 N1 hx1 hx2 (by omega) (by omega) _ rfl).mono ?_
      rintro e w26 ⟨s1, rfl, hs1, hB⟩
      replace HB := HB.below hB
      replace hx1 := hx1.below hB
      replace hx2 := hx2.below hB
      clear hB
      go_wp2_with (fail)
      refine (radd_B _ _ _ N0 N1 hx1 hx2 (by omega) (by omega) _ rfl).mono ?_
      rintro e w27 ⟨s2, rfl, hs2, hB⟩
      replace HB := HB.below hB
      replace hx1 := hx1.below hB
      replace hx2 := hx2.below hB
      replace hs1 := hs1.below hB
      clear hB
      go_wp2_with (fail)
      refine (same_B _ _ _ _ _ hs1 hs2 true (decide_eq_true rfl)).mono ?_
      rintro e w28 ⟨rfl, hB⟩
      replace HB := HB.below hB
      replace hx1 := hx1.below hB
      replace hx2 := hx2.below hB
      replace hs1 := hs1.below hB
      replace hs2 := hs2.below hB
      clear hB
      go_wp2_with (fail)
      refine (cmp_B _ _ _ N0 N1 hx1 hx2 kc HKC.out).mono ?_
      rintro e w29 ⟨rfl, hB⟩
      replace HB := HB.below hB
      replace hx1 := hx1.below hB
      replace hx2 := hx2.below hB
      clear hB
      go_wp2_with (fail)
      refine (rcmp_B _ _ _ N0 N1 hx1 hx2 (by omega) (by omega) kc HKC.out).mono ?_
      rintro e w30 ⟨rfl, hB⟩
      replace HB := HB.below hB
      replace hx1 := hx1.below hB
      replace hx2 := hx2.below hB
      clear hB
      go_wp2_with (fail)
      refine (bits_B _ _ N0 hx1 (by omega) kb HKB.out).mono ?_
      rintro e w31 ⟨rfl, hB⟩
      replace HB := HB.below hB
      replace hx1 := hx1.below hB
      replace hx2 := hx2.below hB
      clear hB
      go_wp2_with (fail)
      refine (rbits_B _ _ N0 hx1 (by omega) kb HKB.out).mono ?_
      rintro e w32 ⟨rfl, hB⟩
      replace HB := HB.below hB
      replace hx1 := hx1.below hB
      replace hx2 := hx2.below hB
      clear hB
      go_wp2_with (fail)
      refine (bit_B _ _ N0 _ hx1 (by omega) (by omega) kt HKT.out).mono ?_
      rintro e w33 ⟨rfl, hB⟩
      replace HB := HB.below hB
      replace hx1 := hx1.below hB
      replace hx2 := hx2.below hB
      clear hB
      go_wp2_with (fail)
      refine (rbit_B _ _ N0 _ hx1 (by omega) (by omega) kt HKT.out).mono ?_
      rintro e w34 ⟨rfl, hB⟩
      replace HB := HB.below hB
      replace hx1 := hx1.below hB
      replace hx2 := hx2.below hB
      clear hB
      go_wp2_with (fail)
      refine (shl_B _ _ N0 _ hx1 (by omega) (by omega) (by omega) (N0 * 2 ^ S) (by rw [Int.toNat_natCast])).mono ?_
      rintro e w35 ⟨s3, rfl, hs3, hB⟩
      replace HB := HB.below hB
      replace hx1 := hx1.below hB
      replace hx2 := hx2.below hB
      clear hB
      go_wp2_with (fail)
      refine (rshl_B _ _ N0 S hx1 (by omega) (by omega) _ rfl).mono ?_
      rintro e w36 ⟨s4, rfl, hs4, hB⟩
      replace HB := HB.below hB
      replace hx1 := hx1.below hB
      replace hx2 := hx2.below hB
      replace hs3 := hs3.below hB
      clear hB
      go_wp2_with (fail)
      refine (same_B _ _ _ _ _ hs3 hs4 true (decide_eq_true rfl)).mono ?_
      rintro e w37 ⟨rfl, hB⟩
      replace HB := HB.below hB
      replace hx1 := hx1.below hB
      replace hx2 := hx2.below hB
      replace hs3 := hs3.below hB
      replace hs4 := hs4.below hB
      clear hB
      go_wp2_with (fail)
      refine (shr_B _ _ N0 _ hx1 (by omega) (by omega) (by omega) (N0 / 2 ^ S) (by rw [Int.toNat_natCast])).mono ?_
      rintro e w38 ⟨s5, rfl, hs5, hB⟩
      replace HB := HB.below hB
      replace hx1 := hx1.below hB
      replace hx2 := hx2.below hB
      clear hB
      go_wp2_with (fail)
      refine (rshr_B _ _ N0 S hx1 (by omega) (by omega) _ rfl).mono ?_
      rintro e w39 ⟨s6, rfl, hs6, hB⟩
      replace HB := HB.below hB
      replace hx1 := hx1.below hB
      replace hx2 := hx2.below hB
      replace hs5 := hs5.below hB
      clear hB
      go_wp2_with (fail)
      refine (same_B _ _ _ _ _ hs5 hs6 true (decide_eq_true rfl)).mono ?_
      rintro e w40 ⟨rfl, hB⟩
      replace HB := HB.below hB
      replace hx1 := hx1.below hB
      replace hx2 := hx2.below hB
      replace hs5 := hs5.below hB
      replace hs6 := hs6.below hB
      clear hB
      go_wp2
      go_ret
      exact ⟨rfl, HB⟩

set_option maxRecDepth 100000 in
theorem lifted_NatTells (os : Os) (started : os.Started) (H : Type) (enc : TypeId × Value → H) :
    ReturnsInHanded {} Try.checked os 3 .any (Rows.natTellsSpec.pre6 enc Try.prog Try.f3 Rows.natTellsRow.domain false) (Rows.natTellsSpec.post enc Try.prog Try.f3 false true false false) := by
  refine returnsInHanded_of_change (C := Try.checked) own started (by kernel_rfl) Try.func3
    (ChangeSpec.witness6 (enc := enc) (C := Try.checked) false ⟨#[], #[.slice none 0 0, .slice none 0 0, .agg #[.int .u16 0, .int .u16 0]], []⟩ 8 (by kernel_rfl) (by kernel_rfl) (by kernel_rfl) (by kernel_rfl)) ?_
  intro W base args ds gs before hval hW _ _
  have hW' := hW
  obtain ⟨p, q, hA, hV, rfl, _, _⟩ := hW
  have hlt : ∀ x ∈ p ++ q, x.block < W.heap.size := fun x hx => hW'.lt x hx
  have hA2 : DataW.TrodAll enc Try.prog W 0 (fun _ => true) true Try.f3.params.toList args.toList ds p := hA
  rw [Try.params3] at hA2 hval
  clear hA
  obtain ⟨v0, vs0, d0, ds0, p0, q0, hargs0, rfl, rfl, h0, r0⟩ := trodAll_cons hA2
  obtain ⟨v1, vs1, d1, ds1, p1, q1, hargs1, rfl, rfl, h1, r1⟩ := trodAll_cons r0
  obtain ⟨v2, vs2, d2, ds2, p2, q2, hargs2, rfl, rfl, h2, r2⟩ := trodAll_cons r1
  obtain ⟨hn1, rfl, rfl⟩ := trodAll_nil r2
  subst hn1
  subst hargs2
  subst hargs1
  obtain rfl : args = #[v0, v1, v2] := by cases args; simp_all
  obtain ⟨rfl, rfl⟩ := trodVars_none hV
  obtain ⟨xs0, u0⟩ := open_limbs (hval 0 22 v0 rfl rfl) h0 (fun x hx => hlt x (by simp [hx]))
  obtain ⟨xs1, u1⟩ := open_limbs (hval 1 22 v1 rfl rfl) h1 (fun x hx => hlt x (by simp [hx]))
  obtain ⟨na2, nb2, rfl, rfl, rfl, wfa2, wfb2⟩ := WideMaps.open_pair ⟨Try.underlying24, by kernel_rfl, by kernel_rfl, by kernel_rfl⟩ Try.underlying23 (hval 2 24 v2 rfl rfl) h2
  have bda2 := bounds_u16 wfa2
  have bdb2 := bounds_u16 wfb2
  obtain ⟨ma2, rfl⟩ := Int.eq_ofNat_of_zero_le bda2.1
  obtain ⟨mb2, rfl⟩ := Int.eq_ofNat_of_zero_le bdb2.1
  refine (NatTells_walk W _ _ u0 _ _ u1 ma2 mb2 (by omega) (by omega)).mono fun e W' ⟨he, hB⟩ => ?_
  subst he
  exact ⟨_, rfl, law_post hW' rfl (by rw [Try.params3]; decide +kernel) rfl rfl rfl rfl hB⟩

/-- The statement. -/
theorem natTells_holds : Rows.NatTellsSaid :=
  OpenClaim.holds_of_wide 3 Try.f3 rfl rfl rfl rfl rfl rfl rfl ⟨rfl, rfl, rfl, rfl, rfl⟩ rfl rfl rfl rfl rfl (by kernel_rfl) Try.func3 (by kernel_rfl)
    (of_decide_eq_true (by kernel_rfl)) (by unfold Func.isWrapper; first | (rw [if_pos (by decide +kernel)]; kernel_rfl) | (rw [if_neg (by decide +kernel)]; exact ⟨rfl, rfl⟩))
    (fun os started H enc _ => lifted_NatTells os started H enc)
end Go.Proofs.Ytnjkdplhoihkiaa
