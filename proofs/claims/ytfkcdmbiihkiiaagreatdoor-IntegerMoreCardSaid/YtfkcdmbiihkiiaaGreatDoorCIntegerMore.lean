/- Proved: what the statement IntegerMore does: powers, shifts, texts, and what any text is read as, are the document's: it tells true. No condition. -/
import Derived.Test.YtfkcdmbiihkiiaaGreatDoorBbe
import Derived.Test.YtfkcdmbiihkiiaaGreatDoorBaj
import Derived.Test.YtfkcdmbiihkiiaaGreatDoorBbl
import Derived.Test.YtfkcdmbiihkiiaaGreatDoorBbm
import Derived.Test.YtfkcdmbiihkiiaaGreatDoorBbi
import Derived.Test.YtfkcdmbiihkiiaaGreatDoorBav
import Derived.Test.YtfkcdmbiihkiiaaGreatDoorBbh
import Derived.Test.YtfkcdmbiihkiiaaGreatDoorBaw
import Derived.Test.YtfkcdmbiihkiiaaGreatDoorBbk
import Derived.Test.YtfkcdmbiihkiiaaGreatDoorBak
import Derived.Test.YtfkcdmbiihkiiaaGreatDoorBbd
import Derived.Test.YtfkcdmbiihkiiaaGreatDoorBbj
import Derived.Test.YtfkcdmbiihkiiaaGreatDoorBbf
import Derived.Deep.RegionHeld3

namespace Go.Proofs.YtfkcdmbiihkiiaaGreatDoor
open Go.RowKit
set_option linter.unusedVariables false
set_option maxHeartbeats 400000

set_option maxRecDepth 100000 in
set_option maxHeartbeats 8000000 in
theorem zsub (w : World) (va vb : Value) (a b : Int) (ha : Zn w va a) (hb : Zn w vb b) (hl : (limbs a.natAbs).length ≤ 1000000) (hl2 : (limbs b.natAbs).length ≤ 1000000) (y : Int) (hy : a - b = y) :
    Calls Tryz.prog 31 #[va, vb] w fun e w' => ∃ u, e = .returned u ∧ Zn w' u y ∧ Ext w w' := by
  have hN := Lib.hid (fun W h => zneg W vb b h (-b) rfl)
  have hA := Lib.hid (fun W u h (g : Zn W u (-b)) => zadd W va u a (-b) h g hl (by rw [Int.natAbs_neg]; exact hl2) y (by rw [← Int.sub_eq_add_neg]; exact hy))
  have ha' := ha
  have hb' := hb
  obtain ⟨p, A, L, c, n, rfl, hu, hL, hz, -, hza, hzn⟩ := ha.open
  obtain ⟨q, B, K, d, m, rfl, hv, hK, hz2, -, hza2, hzn2⟩ := hb.open
  have hE0 := ((((Ext.refl w).alloc (.cells #[.bool p, .slice A L c] 24)).alloc (.cells #[.bool q, .slice B K d] 24)).alloc (.cells #[.bool false, .slice none 0 0] 24)).drew
  have hI0 := (Ib.new3 w (.cells #[.bool p, .slice A L c] 24) (.cells #[.bool q, .slice B K d] 24) false (.slice none 0 0) 24).ext (Ext.refl _).drew
  have hP0 := (Ib.new w p (.slice A L c) 24).ext ((((Ext.refl _).alloc (.cells #[.bool q, .slice B K d] 24)).alloc (.cells #[.bool false, .slice none 0 0] 24)).drew)
  have hQ0 := (Ib.new2 w (.cells #[.bool p, .slice A L c] 24) q (.slice B K d) 24).ext (((Ext.refl _).alloc (.cells #[.bool false, .slice none 0 0] 24)).drew)
  have hS0 : (w.heap.size + 1 + 1 < (((w.alloc (.cells #[.bool p, .slice A L c] 24)).alloc (.cells #[.bool q, .slice B K d] 24)).alloc (.cells #[.bool false, .slice none 0 0] 24)).drew.heap.size ∧ (((w.alloc (.cells #[.bool p, .slice A L c] 24)).alloc (.cells #[.bool q, .slice B K d] 24)).alloc (.cells #[.bool false, .slice none 0 0] 24)).drew.cell? ⟨w.heap.size, 0, none⟩ = some (.bool p) ∧ (((w.alloc (.cells #[.bool p, .slice A L c] 24)).alloc (.cells #[.bool q, .slice B K d] 24)).alloc (.cells #[.bool false, .slice none 0 0] 24)).drew.cell? ⟨w.heap.size, 1, none⟩ = some (.slice A L c) ∧ (((w.alloc (.cells #[.bool p, .slice A L c] 24)).alloc (.cells #[.bool q, .slice B K d] 24)).alloc (.cells #[.bool false, .slice none 0 0] 24)).drew.cell? ⟨w.heap.size + 1, 0, none⟩ = some (.bool q) ∧ (((w.alloc (.cells #[.bool p, .slice A L c] 24)).alloc (.cells #[.bool q, .slice B K d] 24)).alloc (.cells #[.bool false, .slice none 0 0] 24)).drew.cell? ⟨w.heap.size + 1, 1, none⟩ = some (.slice B K d)) ∧ Ext w (((w.alloc (.cells #[.bool p, .slice A L c] 24)).alloc (.cells #[.bool q, .slice B K d] 24)).alloc (.cells #[.bool false, .slice none 0 0] 24)).drew := ⟨⟨by simp, hP0.2.1, hP0.2.2.1, hQ0.2.1, hQ0.2.2.1⟩, hE0⟩
  have ha0 := ha'.below hE0
  have hb0 := hb'.below hE0
  clear hl hl2 hza hzn hza2 hzn2 hz hz2 hL hK ha hb hy hP0 hQ0 ha' hb'
  go_enter Tryz.func31, Tryz.ntmps31
  go_wp2
  go_region_held3 (fun X => (w.heap.size + 1 + 1 < X.heap.size ∧ X.cell? ⟨w.heap.size, 0, none⟩ = some (.bool p) ∧ X.cell? ⟨w.heap.size, 1, none⟩ = some (.slice A L c) ∧ X.cell? ⟨w.heap.size + 1, 0, none⟩ = some (.bool q) ∧ X.cell? ⟨w.heap.size + 1, 1, none⟩ = some (.slice B K d)) ∧ Ext w X)
    (first
      | exact hS0
      | exact keepI2 (by assumption) (by assumption)
      | exact keepS2 (by assumption))
    (first
      | (go_at_call 27; ((with_reducible refine (hN.out _ hb0).mono ?_); rintro e w2 ⟨u, rfl, hz2, hE2⟩; obtain ⟨b2, A2, L2, c2, rfl⟩ := hz2.sh))
      | (go_at_call 29; ((with_reducible refine (hA.out _ _ (ha0.below hE2) hz2).mono ?_); rintro e w3 ⟨u, rfl, hz3, hE3⟩; obtain ⟨b3, A3, L3, c3, rfl⟩ := hz3.sh; have hI3 := (hI0.ext hE2).ext hE3; obtain ⟨i0, i1, i2, i3, i4⟩ := id hI3)))
  clear hN hA
  clear hI3
  go_wp2
  (try simp only [Exit.inBlock, Exit.then])
  refine bodyPost_ret (v := .agg #[.bool b3, .slice A3 L3 c3]) (show (results _ _).run _ _ = _ from ?_) rfl ⟨_, rfl, hz3.put2 ((hI0.ext hE2).ext hE3) (slice_no_int _ _ _) _ _, ((hE0.below hE2).below hE3).put2 (by omega) _ _⟩
  simp only [results]
  go_simp
end Go.Proofs.YtfkcdmbiihkiiaaGreatDoor
/- What the document's shift and the law of powers, shifts and texts need besides. -/
namespace Go.Proofs.YtfkcdmbiihkiiaaGreatDoor
open Go.RowKit
set_option linter.unusedVariables false
set_option maxHeartbeats 400000

/-- The end: the result lies in its block. -/
theorem post_cellI {n : Nat} {cs : List Code} {l : List (Nat × Value)} {w : World} {fn : Func} {R : Ending → World → Prop} {t : Tmp} {N : Nat} {b : Bool} {m : Value} (hr : fn.results = #[.cell t 24]) (hv : Pl.look l t = some (.pointer (some ⟨N, 0, none⟩)))
    (hI : Ib w N b m) (h : R (.returned (.agg #[.bool b, m])) w) : Pl.V Tryz.prog (bodyPost Tryz.prog fn R) n (.ret :: cs) l w := Pl.V_ret fun a ha => by
  refine ⟨ha.defers, _, ?_, h⟩
  obtain ⟨h0, h1, h2, h3, h4⟩ := hI
  unfold results
  rw [hr]
  have e : a.tmps.getD t undef = .pointer (some ⟨N, 0, none⟩) := by rw [Array.getD_eq_getD_getElem?, ha.look t _ hv]; rfl
  simp only [List.mapM_toArray, List.mapM_cons, List.mapM_nil, e]
  go_simp
theorem U.one {w : World} {v : Value} (h : U w v [1]) : Un w v 1 := by
  show U w _ (limbs 1)
  rw [limbs_smallN 1 (by decide) (by decide)]; exact h
theorem sg_shift (a : Int) (k : Nat) : sg (decide (a < 0)) (a.natAbs * 2 ^ k) = a * 2 ^ k := by
  have e : ((a.natAbs * 2 ^ k : Nat) : Int) = (a.natAbs : Int) * 2 ^ k := by push_cast; rfl
  by_cases h : a < 0
  · rw [decide_eq_true h, sg_true, e, ← Int.neg_mul]; congr 1; omega
  · rw [decide_eq_false h, sg_false, e]; congr 1; omega
theorem shl_of_nat (a s : Int) (k : Nat) (h : s = (k : Int)) : a * 2 ^ k = shl a s := by subst h; exact (shl_pos a k).symm
theorem shl_of_neg (a s : Int) (k : Nat) (h : s = -(k : Int)) : a / 2 ^ k = shl a s := by subst h; exact (shl_neg a k).symm
theorem sg_two (k : Nat) : sg false (1 * 2 ^ k) = (2 : Int) ^ k := by rw [sg_false, Nat.one_mul]; push_cast; rfl
theorem len_shift {a : Int} {K k : Nat} (h : Sz a K) (hk : k < 32 * 40) : (limbs (a.natAbs * 2 ^ k)).length ≤ K + 40 := by
  have := (h.mul (Sz.two (n := k) (M := 40) hk) (Nat.le_refl _))
  have e : (a * 2 ^ k).natAbs = a.natAbs * 2 ^ k := by rw [Int.natAbs_mul, Int.natAbs_pow]; rfl
  rw [← e]; exact this
section
variable {x y : Operand}
theorem b_remI {a b c : Int} (h : Int.tmod a b = c) (h0 : 0 < b) (ha : -1000000 ≤ a ∧ a ≤ 1000000) (hb : b ≤ 1000000) (hc : -1000000 ≤ c ∧ c ≤ 1000000) (X : World) : (do eqGuard .rem 3 x y (.int .i64 a) (.int .i64 b); binOp .rem 3 (.int .i64 a) (.int .i64 b) : Sem Value).run Tryz.prog X = .ok (.int .i64 c) X := by
  have w1 : IntKind.i64.wrap c = c := IntWalk.i64_in _ (by omega)
  have hz : ¬ (b = 0) := by omega
  go_simp
theorem i64_and31 (n : Int) : bits .and .i64 n 31 = n % 32 := by
  have h31 : (BitVec.ofInt 64 31).toNat = 2 ^ 5 - 1 := by decide
  have key : (BitVec.ofInt 64 n &&& BitVec.ofInt 64 31).toNat = (n % ((2 ^ 64 : Nat) : Int)).toNat % 2 ^ 5 := by
    rw [BitVec.toNat_and, BitVec.toNat_ofInt, h31, Nat.and_two_pow_sub_one_eq_mod]
  show IntKind.i64.wrap ((BitVec.ofInt 64 n &&& BitVec.ofInt 64 31).toNat : Nat) = n % 32
  rw [key, IntKind.wrap_i64]
  omega
theorem b_and31 {a c : Int} (h : a % 32 = c) (X : World) : (do eqGuard .and 3 x y (.int .i64 a) (.int .i64 31); binOp .and 3 (.int .i64 a) (.int .i64 31) : Sem Value).run Tryz.prog X = .ok (.int .i64 c) X := by
  have e := i64_and31 a
  rw [h] at e
  clear h
  go_simp
theorem cv_i16 {a : Int} (ha : -32768 ≤ a ∧ a < 32768) (X : World) : (convert 39 3 (.int .i16 a)).run Tryz.prog X = .ok (.int .i64 a) X := by
  have w1 : IntKind.i64.wrap a = a := IntWalk.i64_in _ (by omega)
  go_simp
theorem cv_i16l {a : Int} (ha : -32768 ≤ a ∧ a < 32768) (X : World) : (convert 39 2 (.int .i16 a)).run Tryz.prog X = .ok (.int .i64 a) X := by
  have w1 : IntKind.i64.wrap a = a := IntWalk.i64_in _ (by omega)
  go_simp
theorem b_mull {a b : Int} (h : -1000000000000000000 ≤ a * b ∧ a * b ≤ 1000000000000000000) (X : World) : (do eqGuard .mul 2 x y (.int .i64 a) (.int .i64 b); binOp .mul 2 (.int .i64 a) (.int .i64 b) : Sem Value).run Tryz.prog X = .ok (.int .i64 (a * b)) X := by
  have : IntKind.i64.wrap (a * b) = a * b := IntWalk.i64_in _ (by omega)
  go_simp
end
theorem tmod_b (k : Int) : -600 ≤ Int.tmod k 600 ∧ Int.tmod k 600 ≤ 600 := by
  have h := Int.tmod_lt_of_pos k (show (0 : Int) < 600 by decide)
  have h2 := Int.tmod_lt_of_pos (-k) (show (0 : Int) < 600 by decide)
  rw [Int.neg_tmod] at h2
  omega
theorem Sz.two64 {z : Int} {K : Nat} (h : z.natAbs < 18446744073709551616 ∧ 2 ≤ K) : Sz z K := Nat.le_trans (len_of (k := 2) (show _ < 4294967296 ^ 2 from h.1)) h.2
theorem bval_len10 (ds : List Nat) (hd : ∀ d ∈ ds, d < 10) (hl : ds.length ≤ 300) : (limbs (bval 10 ds)).length ≤ 380 := by
  have h := bval_lt 10 ds hd
  have h2 : (10 : Nat) ^ 300 ≤ 4294967296 ^ 40 := by decide +kernel
  exact Nat.le_trans (len_of (k := 40) (Nat.lt_of_lt_of_le h (Nat.le_trans (Nat.pow_le_pow_right (by decide) hl) h2))) (by decide)
/-- What a text is read as, by both. -/
def RdBad (S : ByteArray) (z : Int) : Prop := (∀ w, Calls Tryz.prog 36 #[.string S] w fun e w' => e = .returned (.tuple #[.agg #[.bool false, .slice none 0 0], .int .i64 z, .int .i64 50]) ∧ Ext w w') ∧
  (∀ w, Calls Tryz.prog 37 #[.string S] w fun e w' => e = .returned (.tuple #[.agg #[.bool false, .slice none 0 0], .int .i64 z, .int .i64 50]) ∧ Ext w w')
def RdGood (S : ByteArray) (y : Int) : Prop := (∀ w, Calls Tryz.prog 36 #[.string S] w fun e w' => ∃ u, e = .returned (.tuple #[u, .int .i64 0, .int .i64 0]) ∧ Zn w' u y ∧ Ext w w') ∧
  (∀ w, Calls Tryz.prog 37 #[.string S] w fun e w' => ∃ u, e = .returned (.tuple #[u, .int .i64 0, .int .i64 0]) ∧ Zn w' u y ∧ Ext w w')
theorem rd_bad {S T : ByteArray} (hl : S.size ≤ 300) (hT : S.extract (ahd S) S.size = T) (i : Int) (hi : 0 ≤ i ∧ i ≤ 1000000) (h1 : RdF 68 T 10 [] i 50) (h2 : RdF 69 T 10 [] i 50) : RdBad S ((ahd S : Nat) + i) := by
  subst hT
  constructor
  · intro w
    refine (zread_of w S (by omega) [] i 50 h1 hi (fun h => by cases h)).mono fun e w' h => ?_
    obtain ⟨hE, ⟨_, he⟩ | ⟨h1, _⟩⟩ := h
    · exact ⟨he, hE⟩
    · cases h1
  · intro w
    refine (rzread_of w S (by omega) [] (by simp) i 50 h2 hi (fun h => by cases h)).mono fun e w' h => ?_
    obtain ⟨hE, ⟨_, he⟩ | ⟨h1, _⟩⟩ := h
    · exact ⟨he, hE⟩
    · cases h1
theorem tell10 (S : ByteArray) (hl : S.size ≤ 300) : (∃ z : Int, RdBad S z) ∨ (∃ y : Int, Sz y 400 ∧ RdGood S y) := by
  have hle := ahd_le S
  obtain ⟨T, hT⟩ : ∃ T, S.extract (ahd S) S.size = T := ⟨_, rfl⟩
  have hTs : T.size ≤ 300 := by rw [← hT, ByteArray.size_extract]; omega
  rcases rd_cases T 10 with h0 | ⟨h0, hd⟩ | ⟨i, hi, h1, hb⟩
  · obtain ⟨r1, r2⟩ := tell_empty T 10 (by decide) (by decide) h0
    exact .inl ⟨_, rd_bad hl hT 0 (by decide) r1 r2⟩
  · right
    obtain ⟨r1, r2⟩ := tell_good T 10 (by decide) (by decide) (by omega) h0 hd
    have hlen : (limbs (bval 10 (worL T))).length ≤ 380 := bval_len10 (worL T) hd (by rw [worL_len]; omega)
    subst hT
    refine ⟨sg (decide (ahd S = 1)) (bval 10 (worL (S.extract (ahd S) S.size))), ?_, fun w => ?_, fun w => ?_⟩
    · show (limbs (sg _ _).natAbs).length ≤ 400
      rw [sg_abs]; omega
    · refine (zread_of w S (by omega) _ 0 0 r1 (by decide) (fun _ => rfl)).mono fun e w' h => ?_
      obtain ⟨hE, ⟨h1, _⟩ | ⟨_, u, he, hz⟩⟩ := h
      · exact absurd rfl h1
      · rw [val_limbs] at hz; exact ⟨u, he, hz, hE⟩
    · refine (rzread_of w S (by omega) _ (Nat.le_trans hlen (by decide)) 0 0 r2 (by decide) (fun _ => rfl)).mono fun e w' h => ?_
      obtain ⟨hE, ⟨h1, _⟩ | ⟨_, u, he, hz⟩⟩ := h
      · exact absurd rfl h1
      · rw [val_limbs] at hz; exact ⟨u, he, hz, hE⟩
  · obtain ⟨r1, r2⟩ := tell_wrong T 10 i (by decide) (by decide) (by omega) hi h1 hb
    exact .inl ⟨_, rd_bad hl hT i (by omega) r1 r2⟩
end Go.Proofs.YtfkcdmbiihkiiaaGreatDoor
/- The document's shift. -/
namespace Go.Proofs.YtfkcdmbiihkiiaaGreatDoor
open Go.RowKit
set_option linter.unusedVariables false
set_option maxHeartbeats 400000
namespace JE
theorem en15 (u : Array Value) (X : World) : (callFunc 15 u).run Tryz.prog X = .ok (.enter 15 u) X := Pl.enters Tryz.func15 (by kernel_rfl) rfl u X
theorem en22 (u : Array Value) (X : World) : (callFunc 22 u).run Tryz.prog X = .ok (.enter 22 u) X := Pl.enters Tryz.func22 (by kernel_rfl) rfl u X
theorem en76 (u : Array Value) (X : World) : (callFunc 76 u).run Tryz.prog X = .ok (.enter 76 u) X := Pl.enters Tryz.func76 (by kernel_rfl) rfl u X
end JE
open JE
set_option maxRecDepth 100000 in
set_option maxHeartbeats 4000000 in
theorem rzshiftP (w : World) (va : Value) (a s : Int) (ha : Zn w va a) (hl : Sz a 100) (h0 : 0 ≤ s) (h1 : -900 ≤ s) (h2 : s ≤ 900) :
    Calls Tryz.prog 41 #[va, .int .i64 s] w fun e w' => ∃ u, e = .returned u ∧ Zn w' u (shl a s) ∧ Ext w w' := by
  obtain ⟨A, c, rfl, hu⟩ := id ha
  obtain ⟨k, rfl⟩ : ∃ k : Nat, s = (k : Int) := ⟨s.natAbs, by omega⟩
  refine Pl.calls_by (n := 29) (vs := [.agg #[.bool (decide (a < 0)), .slice A (limbs a.natAbs).length c], .int .i64 ((k : Nat) : Int)]) Tryz.func41 rfl (by kernel_rfl) (by simp) ?_
  refine Pl.V_seq ?_
  refine Pl.V_region (by kernel_rfl) ?_
  refine boxS rfl rfl rfl rfl rfl (fun _ _ => trivial) ?_
  intro N1 w1 hB1 i_1
  refine allocI rfl rfl rfl rfl (fun _ _ => trivial) ?_
  intro N2 w2 hB2 z_N2 i_2
  refine Pl.pA_end ?_
  refine Pl.V_seq ?_
  refine Pl.V_seq ?_
  refine Pl.V_region (by kernel_rfl) ?_
  refine Pl.qA_move trivial rfl rfl rfl rfl rfl ?_
  refine Pl.qA_bin (v := (.bool true)) trivial rfl rfl rfl rfl rfl rfl (fun X => b_geq (decide_eq_true h0) X) ?_
  refine Pl.pA_end ?_
  refine Pl.V_true rfl ?_
  refine Pl.V_seq ?_
  have hB3 := Ext.drew (Ext.refl w2)
  refine Pl.V_draw (S := fun X => Ext w1 X) [(true, 0, 0), (true, 1, 1), (true, 2, 3), (true, 3, 7), (true, 4, 15), (false, 5, 31), (false, 6, 63), (false, 7, 127)] fo Pl.post_panic (by kernel_rfl) (Ext.drew hB2) ?_
  generalize w2.drew = w3 at hB3 ⊢
  intro hS3
  refine qA_field hS3 rfl rfl rfl rfl rfl (fa_neg _) ?_
  refine Pl.qA_load hS3 rfl rfl rfl rfl rfl (fun X hX => Ib.neg (Ib.ext i_1 hX)) ?_
  refine qA_field hS3 rfl rfl rfl rfl rfl (fa_mag _) ?_
  refine Pl.qA_load hS3 rfl rfl rfl rfl rfl (fun X hX => Ib.mag (Ib.ext i_1 hX)) ?_
  refine Pl.qA_move hS3 rfl rfl rfl rfl rfl ?_
  have hu__3 := Un.below hu (Ext.below hB1 (Ext.below hB2 hB3))
  refine Pl.pA_call rfl rfl rfl rfl rfl en76 ?_
  refine Calls.mono (rshl_B _ _ a.natAbs k hu__3 (by omega) (Nat.le_trans hl (by decide)) _ rfl) ?_
  rintro e w4 ⟨v_x3, rfl, h_x3, hB4⟩
  have hS4 := Ext.below hS3 hB4
  refine ⟨_, rfl, hS4, ?_⟩
  refine Pl.pA_call rfl rfl rfl rfl rfl en22 ?_
  refine Calls.mono (rzmake _ (decide (a < 0)) _ (limbs (a.natAbs * 2 ^ k)) h_x3 (Nat.le_trans (len_shift hl (by omega)) (by decide)) _ (val_limbs _) (shl a ((k : Nat) : Int)) ((sg_shift a k).trans (shl_pos a k).symm)) ?_
  rintro e w5 ⟨v_x5, rfl, h_x5, hB5⟩
  have hS5 := Ext.below hS4 hB5
  refine ⟨_, rfl, hS5, ?_⟩
  have b_x5 : Sz (shl a ((k : Nat) : Int)) 140 := Sz.shl hl (by omega) (by decide)
  obtain ⟨p_x5, A_x5, L_x5, c_x5, rfl⟩ := Zn.sh h_x5
  have i_2__5 := Ib.ext i_2 (Ext.below hB3 (Ext.below hB4 hB5))
  refine storeI rfl rfl rfl rfl rfl rfl i_2__5 (fun _ T => T _ hS5 (Nat.le_trans (Below.size (Ext.refl w1)) z_N2)) ?_
  intro w6 T1_6 T2_6 T3_6 I_6
  have hB6 := T1_6 _ (Ext.below hB2 (Ext.below hB3 (Ext.below hB4 hB5))) (Nat.le_trans (Below.size (Ext.refl w1)) z_N2)
  have hS6 := T1_6 _ hS5 (Nat.le_trans (Below.size (Ext.refl w1)) z_N2)
  have h_x5__6 := T2_6 _ _ h_x5
  refine Pl.pA_end ?_
  refine post_cellI rfl rfl I_6 ?_
  exact ⟨_, rfl, h_x5__6, (Ext.below hB1 hB6)⟩
set_option maxRecDepth 100000 in
set_option maxHeartbeats 4000000 in
theorem rzshiftN (w : World) (va : Value) (a s : Int) (ha : Zn w va a) (hl : Sz a 100) (h0 : ¬ 0 ≤ s) (h1 : -900 ≤ s) (h2 : s ≤ 900) :
    Calls Tryz.prog 41 #[va, .int .i64 s] w fun e w' => ∃ u, e = .returned u ∧ Zn w' u (shl a s) ∧ Ext w w' := by
  obtain ⟨A, c, rfl, hu⟩ := id ha
  obtain ⟨k, rfl⟩ : ∃ k : Nat, s = -(k : Int) := ⟨s.natAbs, by omega⟩
  refine Pl.calls_by (n := 29) (vs := [.agg #[.bool (decide (a < 0)), .slice A (limbs a.natAbs).length c], .int .i64 (-((k : Nat) : Int))]) Tryz.func41 rfl (by kernel_rfl) (by simp) ?_
  refine Pl.V_seq ?_
  refine Pl.V_region (by kernel_rfl) ?_
  refine boxS rfl rfl rfl rfl rfl (fun _ _ => trivial) ?_
  intro N1 w1 hB1 i_1
  refine allocI rfl rfl rfl rfl (fun _ _ => trivial) ?_
  intro N2 w2 hB2 z_N2 i_2
  refine Pl.pA_end ?_
  refine Pl.V_seq ?_
  refine Pl.V_seq ?_
  refine Pl.V_region (by kernel_rfl) ?_
  refine Pl.qA_move trivial rfl rfl rfl rfl rfl ?_
  refine Pl.qA_bin (v := (.bool false)) trivial rfl rfl rfl rfl rfl rfl (fun X => b_geq (decide_eq_false h0) X) ?_
  refine Pl.pA_end ?_
  refine Pl.V_false rfl ?_
  refine Pl.V_skip ?_
  refine Pl.V_seq ?_
  refine Pl.V_drawG (S := fun X => Ext w2 X) fo (Ext.drew (Ext.refl _)) ?_
  generalize w2.drew = w3
  intro hB3
  have hS3 := hB3
  refine Pl.G_cut 3 8191 (fun l' w' => ∃ (N_5 : Nat) (N_6 : Nat) (V_25 : Value) (V_26 : Value), l' = [(4, .pointer (some ⟨N2, 0, none⟩)), (5, .pointer (some ⟨N_5, 0, none⟩)), (6, .pointer (some ⟨N_6, 0, none⟩)), (25, V_25), (26, V_26), (27, (.int .i64 0))] ∧ Ext w2 w' ∧ w2.heap.size ≤ N_5 ∧ Ib w' N_5 false (.slice none 0 0) ∧ w2.heap.size ≤ N_6 ∧ Ib w' N_6 false (.slice none 0 0) ∧ Zn w' V_25 (shl a (-((k : Nat) : Int))) ∧ Zn w' V_26 (a % ((2 : Int) ^ k)) ∧ N_5 ≠ N_6) ?_ ?_
  rotate_left
  · intro hK
    refine Pl.G_plan [(true, 0, 0), (true, 2, 1), (true, 3, 5)] 13 13 Pl.post_panic (by kernel_rfl) (by kernel_rfl) (by kernel_rfl) ?_
    have i_1__2 := Ib.ext i_1 hB2
    refine Pl.qA_load hS3 rfl rfl rfl rfl rfl (fun X hX => Ib.load (Ib.ext i_1__2 hX)) ?_
    refine Pl.qA_move hS3 rfl rfl rfl rfl rfl ?_
    refine Pl.qA_un (v := (.int .i64 ((k : Nat) : Int))) hS3 rfl rfl rfl rfl rfl (fun X => u_neg (by omega) (by omega) (by omega) X) ?_
    refine Pl.pA_end ?_
    refine Pl.G_any [1, 11, 12] 12 (by kernel_rfl) (by kernel_rfl) (by kernel_rfl) (Pl.AllG_cons ?_ (Pl.AllG_cons ?_ (Pl.AllG_cons ?_ Pl.AllG_nil)))
    · refine buildS1 (n := 1) (by decide) rfl rfl rfl rfl rfl (fun _ k => Ext.below hS3 k) ?_
      intro A3 w4 hB4 us_3
      have hS4 := Ext.below hS3 hB4
      refine Pl.pA_end ?_
      refine Pl.G_any [4, 11, 12] 11 (by kernel_rfl) (by kernel_rfl) (by kernel_rfl) (Pl.AllG_cons ?_ (Pl.AllG_cons ?_ (Pl.AllG_cons ?_ Pl.AllG_nil)))
      · refine Pl.pA_call rfl rfl rfl rfl rfl en76 ?_
        refine Calls.mono (rshl_B _ _ 1 k (U.one us_3) (by omega) (Nat.le_trans (Sz.lit (z := 1) (K := 1) (by decide) (by decide)) (by decide)) _ rfl) ?_
        rintro e w5 ⟨v_x4, rfl, h_x4, hB5⟩
        have hS5 := Ext.below hS4 hB5
        refine ⟨_, rfl, hS5, ?_⟩
        refine Pl.pA_end ?_
        refine Pl.G_any [5, 11, 12] 10 (by kernel_rfl) (by kernel_rfl) (by kernel_rfl) (Pl.AllG_cons ?_ (Pl.AllG_cons ?_ (Pl.AllG_cons ?_ Pl.AllG_nil)))
        · refine Pl.pA_call rfl rfl rfl rfl rfl en22 ?_
          refine Calls.mono (rzmake _ false _ (limbs (1 * 2 ^ k)) h_x4 (by rw [Nat.one_mul]; exact Nat.le_trans (two_len (M := 40) (by omega)) (by decide)) _ (val_limbs _) ((2 : Int) ^ k) (sg_two k)) ?_
          rintro e w6 ⟨v_x5, rfl, h_x5, hB6⟩
          have hS6 := Ext.below hS5 hB6
          refine ⟨_, rfl, hS6, ?_⟩
          have b_x5 : Sz ((2 : Int) ^ k) 40 := Sz.two (by omega)
          refine Pl.pA_end ?_
          refine Pl.G_any [6, 11, 12] 9 (by kernel_rfl) (by kernel_rfl) (by kernel_rfl) (Pl.AllG_cons ?_ (Pl.AllG_cons ?_ (Pl.AllG_cons ?_ Pl.AllG_nil)))
          · have ha__6 := Zn.below ha (Ext.below hB1 (Ext.below hB2 (Ext.below hB3 (Ext.below hB4 (Ext.below hB5 hB6)))))
            refine Pl.pA_call rfl rfl rfl rfl rfl en15 ?_
            refine Calls.mono (rzdiv_D _ _ _ a ((2 : Int) ^ k) ha__6 h_x5 (Sz.le hl (by decide)) (Sz.le b_x5 (by decide)) (two_ne k) (shl a (-((k : Nat) : Int))) _ (shl_neg a k).symm rfl) ?_
            rintro e w7 ⟨⟨v_x7, v_x8, rfl, h_x7, h_x8⟩, hB7⟩
            have hS7 := Ext.below hS6 hB7
            refine ⟨_, rfl, hS7, ?_⟩
            have b_x7 : Sz (a / ((2 : Int) ^ k)) 100 := Sz.div hl
            have b_x8 : Sz (a % ((2 : Int) ^ k)) 40 := Sz.mod b_x5 (two_ne k)
            refine Pl.pA_end ?_
            refine Pl.G_plan [(true, 7, 127), (true, 8, 255), (true, 9, 511), (true, 10, 1023)] 2047 5 Pl.post_panic (by kernel_rfl) (by kernel_rfl) (by kernel_rfl) ?_
            refine Pl.qA_move hS7 rfl rfl rfl rfl rfl ?_
            refine Pl.qA_extract hS7 rfl rfl rfl rfl rfl rfl ?_
            refine Pl.qA_extract hS7 rfl rfl rfl rfl rfl rfl ?_
            refine Pl.qA_extract hS7 rfl rfl rfl rfl rfl rfl ?_
            refine Pl.pA_end ?_
            refine Pl.G_any [11, 12] 4 (by kernel_rfl) (by kernel_rfl) (by kernel_rfl) (Pl.AllG_cons ?_ (Pl.AllG_cons ?_ Pl.AllG_nil))
            · refine allocI rfl rfl rfl rfl (fun _ k => Ext.below hS7 k) ?_
              intro N9 w8 hB8 z_N9 i_9
              have hS8 := Ext.below hS7 hB8
              refine Pl.pA_end ?_
              refine Pl.G_plan [(false, 12, 4095)] 8191 3 Pl.post_panic (by kernel_rfl) (by kernel_rfl) (by kernel_rfl) ?_
              refine allocI rfl rfl rfl rfl (fun _ k => Ext.below hS8 k) ?_
              intro N10 w9 hB9 z_N10 i_10
              have hS9 := Ext.below hS8 hB9
              refine Pl.pA_end ?_
              have i_9__9 := Ib.ext i_9 hB9
              have h_x7__9 := Zn.below h_x7 (Ext.below hB8 hB9)
              have h_x8__9 := Zn.below h_x8 (Ext.below hB8 hB9)
              exact Pl.G_sub [(4, .pointer (some ⟨N2, 0, none⟩)), (5, .pointer (some ⟨N9, 0, none⟩)), (6, .pointer (some ⟨N10, 0, none⟩)), (25, v_x7), (26, v_x8), (27, (.int .i64 0))] (Pl.subl_cons rfl (Pl.subl_cons rfl (Pl.subl_cons rfl (Pl.subl_cons rfl (Pl.subl_cons rfl (Pl.subl_cons rfl Pl.subl_nil)))))) (hK _ _ ⟨N9, N10, v_x7, v_x8, rfl, (Ext.below hB3 (Ext.below hB4 (Ext.below hB5 (Ext.below hB6 (Ext.below hB7 (Ext.below hB8 hB9)))))), (Nat.le_trans (Below.size (Ext.below hB3 (Ext.below hB4 (Ext.below hB5 (Ext.below hB6 hB7))))) z_N9), i_9__9, (Nat.le_trans (Below.size (Ext.below hB3 (Ext.below hB4 (Ext.below hB5 (Ext.below hB6 (Ext.below hB7 hB8)))))) z_N10), i_10, h_x7__9, h_x8__9, (Nat.ne_of_lt (Nat.lt_of_lt_of_le (i_9).1 z_N10))⟩)
            · refine allocI rfl rfl rfl rfl (fun _ k => Ext.below hS7 k) ?_
              intro N9 w8 hB8 z_N9 i_9
              have hS8 := Ext.below hS7 hB8
              refine Pl.pA_end ?_
              refine Pl.G_plan [(false, 11, 6143)] 8191 3 Pl.post_panic (by kernel_rfl) (by kernel_rfl) (by kernel_rfl) ?_
              refine allocI rfl rfl rfl rfl (fun _ k => Ext.below hS8 k) ?_
              intro N10 w9 hB9 z_N10 i_10
              have hS9 := Ext.below hS8 hB9
              refine Pl.pA_end ?_
              have i_9__9 := Ib.ext i_9 hB9
              have h_x7__9 := Zn.below h_x7 (Ext.below hB8 hB9)
              have h_x8__9 := Zn.below h_x8 (Ext.below hB8 hB9)
              exact Pl.G_sub [(4, .pointer (some ⟨N2, 0, none⟩)), (5, .pointer (some ⟨N10, 0, none⟩)), (6, .pointer (some ⟨N9, 0, none⟩)), (25, v_x7), (26, v_x8), (27, (.int .i64 0))] (Pl.subl_cons rfl (Pl.subl_cons rfl (Pl.subl_cons rfl (Pl.subl_cons rfl (Pl.subl_cons rfl (Pl.subl_cons rfl Pl.subl_nil)))))) (hK _ _ ⟨N10, N9, v_x7, v_x8, rfl, (Ext.below hB3 (Ext.below hB4 (Ext.below hB5 (Ext.below hB6 (Ext.below hB7 (Ext.below hB8 hB9)))))), (Nat.le_trans (Below.size (Ext.below hB3 (Ext.below hB4 (Ext.below hB5 (Ext.below hB6 (Ext.below hB7 hB8)))))) z_N10), i_10, (Nat.le_trans (Below.size (Ext.below hB3 (Ext.below hB4 (Ext.below hB5 (Ext.below hB6 hB7))))) z_N9), i_9__9, h_x7__9, h_x8__9, (Nat.ne_of_gt (Nat.lt_of_lt_of_le (i_9).1 z_N10))⟩)
          · refine allocI rfl rfl rfl rfl (fun _ k => Ext.below hS6 k) ?_
            intro N6 w7 hB7 z_N6 i_6
            have hS7 := Ext.below hS6 hB7
            refine Pl.pA_end ?_
            refine Pl.G_any [6, 12] 8 (by kernel_rfl) (by kernel_rfl) (by kernel_rfl) (Pl.AllG_cons ?_ (Pl.AllG_cons ?_ Pl.AllG_nil))
            · have ha__7 := Zn.below ha (Ext.below hB1 (Ext.below hB2 (Ext.below hB3 (Ext.below hB4 (Ext.below hB5 (Ext.below hB6 hB7))))))
              have h_x5__7 := Zn.below h_x5 hB7
              refine Pl.pA_call rfl rfl rfl rfl rfl en15 ?_
              refine Calls.mono (rzdiv_D _ _ _ a ((2 : Int) ^ k) ha__7 h_x5__7 (Sz.le hl (by decide)) (Sz.le b_x5 (by decide)) (two_ne k) (shl a (-((k : Nat) : Int))) _ (shl_neg a k).symm rfl) ?_
              rintro e w8 ⟨⟨v_x9, v_x10, rfl, h_x9, h_x10⟩, hB8⟩
              have hS8 := Ext.below hS7 hB8
              refine ⟨_, rfl, hS8, ?_⟩
              have b_x9 : Sz (a / ((2 : Int) ^ k)) 100 := Sz.div hl
              have b_x10 : Sz (a % ((2 : Int) ^ k)) 40 := Sz.mod b_x5 (two_ne k)
              refine Pl.pA_end ?_
              refine Pl.G_plan [(true, 7, 2175), (true, 8, 2303), (true, 9, 2559), (true, 10, 3071), (false, 12, 4095)] 8191 3 Pl.post_panic (by kernel_rfl) (by kernel_rfl) (by kernel_rfl) ?_
              refine Pl.qA_move hS8 rfl rfl rfl rfl rfl ?_
              refine Pl.qA_extract hS8 rfl rfl rfl rfl rfl rfl ?_
              refine Pl.qA_extract hS8 rfl rfl rfl rfl rfl rfl ?_
              refine Pl.qA_extract hS8 rfl rfl rfl rfl rfl rfl ?_
              refine allocI rfl rfl rfl rfl (fun _ k => Ext.below hS8 k) ?_
              intro N11 w9 hB9 z_N11 i_11
              have hS9 := Ext.below hS8 hB9
              refine Pl.pA_end ?_
              have i_6__9 := Ib.ext i_6 (Ext.below hB8 hB9)
              have h_x9__9 := Zn.below h_x9 hB9
              have h_x10__9 := Zn.below h_x10 hB9
              exact Pl.G_sub [(4, .pointer (some ⟨N2, 0, none⟩)), (5, .pointer (some ⟨N6, 0, none⟩)), (6, .pointer (some ⟨N11, 0, none⟩)), (25, v_x9), (26, v_x10), (27, (.int .i64 0))] (Pl.subl_cons rfl (Pl.subl_cons rfl (Pl.subl_cons rfl (Pl.subl_cons rfl (Pl.subl_cons rfl (Pl.subl_cons rfl Pl.subl_nil)))))) (hK _ _ ⟨N6, N11, v_x9, v_x10, rfl, (Ext.below hB3 (Ext.below hB4 (Ext.below hB5 (Ext.below hB6 (Ext.below hB7 (Ext.below hB8 hB9)))))), (Nat.le_trans (Below.size (Ext.below hB3 (Ext.below hB4 (Ext.below hB5 hB6)))) z_N6), i_6__9, (Nat.le_trans (Below.size (Ext.below hB3 (Ext.below hB4 (Ext.below hB5 (Ext.below hB6 (Ext.below hB7 hB8)))))) z_N11), i_11, h_x9__9, h_x10__9, (Nat.ne_of_lt (Nat.lt_of_lt_of_le (Ib.ext i_6 hB8).1 z_N11))⟩)
            · refine allocI rfl rfl rfl rfl (fun _ k => Ext.below hS7 k) ?_
              intro N7 w8 hB8 z_N7 i_7
              have hS8 := Ext.below hS7 hB8
              refine Pl.pA_end ?_
              refine Pl.G_plan [(false, 6, 6207), (true, 7, 6271), (true, 8, 6399), (true, 9, 6655), (true, 10, 7167)] 8191 3 Pl.post_panic (by kernel_rfl) (by kernel_rfl) (by kernel_rfl) ?_
              have ha__8 := Zn.below ha (Ext.below hB1 (Ext.below hB2 (Ext.below hB3 (Ext.below hB4 (Ext.below hB5 (Ext.below hB6 (Ext.below hB7 hB8)))))))
              have h_x5__8 := Zn.below h_x5 (Ext.below hB7 hB8)
              refine Pl.pA_call rfl rfl rfl rfl rfl en15 ?_
              refine Calls.mono (rzdiv_D _ _ _ a ((2 : Int) ^ k) ha__8 h_x5__8 (Sz.le hl (by decide)) (Sz.le b_x5 (by decide)) (two_ne k) (shl a (-((k : Nat) : Int))) _ (shl_neg a k).symm rfl) ?_
              rintro e w9 ⟨⟨v_x10, v_x11, rfl, h_x10, h_x11⟩, hB9⟩
              have hS9 := Ext.below hS8 hB9
              refine ⟨_, rfl, hS9, ?_⟩
              have b_x10 : Sz (a / ((2 : Int) ^ k)) 100 := Sz.div hl
              have b_x11 : Sz (a % ((2 : Int) ^ k)) 40 := Sz.mod b_x5 (two_ne k)
              refine Pl.qA_move hS9 rfl rfl rfl rfl rfl ?_
              refine Pl.qA_extract hS9 rfl rfl rfl rfl rfl rfl ?_
              refine Pl.qA_extract hS9 rfl rfl rfl rfl rfl rfl ?_
              refine Pl.qA_extract hS9 rfl rfl rfl rfl rfl rfl ?_
              refine Pl.pA_end ?_
              have i_6__9 := Ib.ext i_6 (Ext.below hB8 hB9)
              have i_7__9 := Ib.ext i_7 hB9
              exact Pl.G_sub [(4, .pointer (some ⟨N2, 0, none⟩)), (5, .pointer (some ⟨N6, 0, none⟩)), (6, .pointer (some ⟨N7, 0, none⟩)), (25, v_x10), (26, v_x11), (27, (.int .i64 0))] (Pl.subl_cons rfl (Pl.subl_cons rfl (Pl.subl_cons rfl (Pl.subl_cons rfl (Pl.subl_cons rfl (Pl.subl_cons rfl Pl.subl_nil)))))) (hK _ _ ⟨N6, N7, v_x10, v_x11, rfl, (Ext.below hB3 (Ext.below hB4 (Ext.below hB5 (Ext.below hB6 (Ext.below hB7 (Ext.below hB8 hB9)))))), (Nat.le_trans (Below.size (Ext.below hB3 (Ext.below hB4 (Ext.below hB5 hB6)))) z_N6), i_6__9, (Nat.le_trans (Below.size (Ext.below hB3 (Ext.below hB4 (Ext.below hB5 (Ext.below hB6 hB7))))) z_N7), i_7__9, h_x10, h_x11, (Nat.ne_of_lt (Nat.lt_of_lt_of_le (i_6).1 z_N7))⟩)
          · refine allocI rfl rfl rfl rfl (fun _ k => Ext.below hS6 k) ?_
            intro N6 w7 hB7 z_N6 i_6
            have hS7 := Ext.below hS6 hB7
            refine Pl.pA_end ?_
            refine Pl.G_any [6, 11] 8 (by kernel_rfl) (by kernel_rfl) (by kernel_rfl) (Pl.AllG_cons ?_ (Pl.AllG_cons ?_ Pl.AllG_nil))
            · have ha__7 := Zn.below ha (Ext.below hB1 (Ext.below hB2 (Ext.below hB3 (Ext.below hB4 (Ext.below hB5 (Ext.below hB6 hB7))))))
              have h_x5__7 := Zn.below h_x5 hB7
              refine Pl.pA_call rfl rfl rfl rfl rfl en15 ?_
              refine Calls.mono (rzdiv_D _ _ _ a ((2 : Int) ^ k) ha__7 h_x5__7 (Sz.le hl (by decide)) (Sz.le b_x5 (by decide)) (two_ne k) (shl a (-((k : Nat) : Int))) _ (shl_neg a k).symm rfl) ?_
              rintro e w8 ⟨⟨v_x9, v_x10, rfl, h_x9, h_x10⟩, hB8⟩
              have hS8 := Ext.below hS7 hB8
              refine ⟨_, rfl, hS8, ?_⟩
              have b_x9 : Sz (a / ((2 : Int) ^ k)) 100 := Sz.div hl
              have b_x10 : Sz (a % ((2 : Int) ^ k)) 40 := Sz.mod b_x5 (two_ne k)
              refine Pl.pA_end ?_
              refine Pl.G_plan [(true, 7, 4223), (true, 8, 4351), (true, 9, 4607), (true, 10, 5119), (false, 11, 6143)] 8191 3 Pl.post_panic (by kernel_rfl) (by kernel_rfl) (by kernel_rfl) ?_
              refine Pl.qA_move hS8 rfl rfl rfl rfl rfl ?_
              refine Pl.qA_extract hS8 rfl rfl rfl rfl rfl rfl ?_
              refine Pl.qA_extract hS8 rfl rfl rfl rfl rfl rfl ?_
              refine Pl.qA_extract hS8 rfl rfl rfl rfl rfl rfl ?_
              refine allocI rfl rfl rfl rfl (fun _ k => Ext.below hS8 k) ?_
              intro N11 w9 hB9 z_N11 i_11
              have hS9 := Ext.below hS8 hB9
              refine Pl.pA_end ?_
              have i_6__9 := Ib.ext i_6 (Ext.below hB8 hB9)
              have h_x9__9 := Zn.below h_x9 hB9
              have h_x10__9 := Zn.below h_x10 hB9
              exact Pl.G_sub [(4, .pointer (some ⟨N2, 0, none⟩)), (5, .pointer (some ⟨N11, 0, none⟩)), (6, .pointer (some ⟨N6, 0, none⟩)), (25, v_x9), (26, v_x10), (27, (.int .i64 0))] (Pl.subl_cons rfl (Pl.subl_cons rfl (Pl.subl_cons rfl (Pl.subl_cons rfl (Pl.subl_cons rfl (Pl.subl_cons rfl Pl.subl_nil)))))) (hK _ _ ⟨N11, N6, v_x9, v_x10, rfl, (Ext.below hB3 (Ext.below hB4 (Ext.below hB5 (Ext.below hB6 (Ext.below hB7 (Ext.below hB8 hB9)))))), (Nat.le_trans (Below.size (Ext.below hB3 (Ext.below hB4 (Ext.below hB5 (Ext.below hB6 (Ext.below hB7 hB8)))))) z_N11), i_11, (Nat.le_trans (Below.size (Ext.below hB3 (Ext.below hB4 (Ext.below hB5 hB6)))) z_N6), i_6__9, h_x9__9, h_x10__9, (Nat.ne_of_gt (Nat.lt_of_lt_of_le (Ib.ext i_6 hB8).1 z_N11))⟩)
            · refine allocI rfl rfl rfl rfl (fun _ k => Ext.below hS7 k) ?_
              intro N7 w8 hB8 z_N7 i_7
              have hS8 := Ext.below hS7 hB8
              refine Pl.pA_end ?_
              refine Pl.G_plan [(false, 6, 6207), (true, 7, 6271), (true, 8, 6399), (true, 9, 6655), (true, 10, 7167)] 8191 3 Pl.post_panic (by kernel_rfl) (by kernel_rfl) (by kernel_rfl) ?_
              have ha__8 := Zn.below ha (Ext.below hB1 (Ext.below hB2 (Ext.below hB3 (Ext.below hB4 (Ext.below hB5 (Ext.below hB6 (Ext.below hB7 hB8)))))))
              have h_x5__8 := Zn.below h_x5 (Ext.below hB7 hB8)
              refine Pl.pA_call rfl rfl rfl rfl rfl en15 ?_
              refine Calls.mono (rzdiv_D _ _ _ a ((2 : Int) ^ k) ha__8 h_x5__8 (Sz.le hl (by decide)) (Sz.le b_x5 (by decide)) (two_ne k) (shl a (-((k : Nat) : Int))) _ (shl_neg a k).symm rfl) ?_
              rintro e w9 ⟨⟨v_x10, v_x11, rfl, h_x10, h_x11⟩, hB9⟩
              have hS9 := Ext.below hS8 hB9
              refine ⟨_, rfl, hS9, ?_⟩
              have b_x10 : Sz (a / ((2 : Int) ^ k)) 100 := Sz.div hl
              have b_x11 : Sz (a % ((2 : Int) ^ k)) 40 := Sz.mod b_x5 (two_ne k)
              refine Pl.qA_move hS9 rfl rfl rfl rfl rfl ?_
              refine Pl.qA_extract hS9 rfl rfl rfl rfl rfl rfl ?_
              refine Pl.qA_extract hS9 rfl rfl rfl rfl rfl rfl ?_
              refine Pl.qA_extract hS9 rfl rfl rfl rfl rfl rfl ?_
              refine Pl.pA_end ?_
              have i_7__9 := Ib.ext i_7 hB9
              have i_6__9 := Ib.ext i_6 (Ext.below hB8 hB9)
              exact Pl.G_sub [(4, .pointer (some ⟨N2, 0, none⟩)), (5, .pointer (some ⟨N7, 0, none⟩)), (6, .pointer (some ⟨N6, 0, none⟩)), (25, v_x10), (26, v_x11), (27, (.int .i64 0))] (Pl.subl_cons rfl (Pl.subl_cons rfl (Pl.subl_cons rfl (Pl.subl_cons rfl (Pl.subl_cons rfl (Pl.subl_cons rfl Pl.subl_nil)))))) (hK _ _ ⟨N7, N6, v_x10, v_x11, rfl, (Ext.below hB3 (Ext.below hB4 (Ext.below hB5 (Ext.below hB6 (Ext.below hB7 (Ext.below hB8 hB9)))))), (Nat.le_trans (Below.size (Ext.below hB3 (Ext.below hB4 (Ext.below hB5 (Ext.below hB6 hB7))))) z_N7), i_7__9, (Nat.le_trans (Below.size (Ext.below hB3 (Ext.below hB4 (Ext.below hB5 hB6)))) z_N6), i_6__9, h_x10, h_x11, (Nat.ne_of_gt (Nat.lt_of_lt_of_le (i_6).1 z_N7))⟩)
        · refine allocI rfl rfl rfl rfl (fun _ k => Ext.below hS5 k) ?_
          intro N5 w6 hB6 z_N5 i_5
          have hS6 := Ext.below hS5 hB6
          refine Pl.pA_end ?_
          refine Pl.G_any [5, 12] 9 (by kernel_rfl) (by kernel_rfl) (by kernel_rfl) (Pl.AllG_cons ?_ (Pl.AllG_cons ?_ Pl.AllG_nil))
          · have h_x4__6 := Un.below h_x4 hB6
            refine Pl.pA_call rfl rfl rfl rfl rfl en22 ?_
            refine Calls.mono (rzmake _ false _ (limbs (1 * 2 ^ k)) h_x4__6 (by rw [Nat.one_mul]; exact Nat.le_trans (two_len (M := 40) (by omega)) (by decide)) _ (val_limbs _) ((2 : Int) ^ k) (sg_two k)) ?_
            rintro e w7 ⟨v_x7, rfl, h_x7, hB7⟩
            have hS7 := Ext.below hS6 hB7
            refine ⟨_, rfl, hS7, ?_⟩
            have b_x7 : Sz ((2 : Int) ^ k) 40 := Sz.two (by omega)
            refine Pl.pA_end ?_
            refine Pl.G_any [6, 12] 8 (by kernel_rfl) (by kernel_rfl) (by kernel_rfl) (Pl.AllG_cons ?_ (Pl.AllG_cons ?_ Pl.AllG_nil))
            · have ha__7 := Zn.below ha (Ext.below hB1 (Ext.below hB2 (Ext.below hB3 (Ext.below hB4 (Ext.below hB5 (Ext.below hB6 hB7))))))
              refine Pl.pA_call rfl rfl rfl rfl rfl en15 ?_
              refine Calls.mono (rzdiv_D _ _ _ a ((2 : Int) ^ k) ha__7 h_x7 (Sz.le hl (by decide)) (Sz.le b_x7 (by decide)) (two_ne k) (shl a (-((k : Nat) : Int))) _ (shl_neg a k).symm rfl) ?_
              rintro e w8 ⟨⟨v_x9, v_x10, rfl, h_x9, h_x10⟩, hB8⟩
              have hS8 := Ext.below hS7 hB8
              refine ⟨_, rfl, hS8, ?_⟩
              have b_x9 : Sz (a / ((2 : Int) ^ k)) 100 := Sz.div hl
              have b_x10 : Sz (a % ((2 : Int) ^ k)) 40 := Sz.mod b_x7 (two_ne k)
              refine Pl.pA_end ?_
              refine Pl.G_plan [(true, 7, 2175), (true, 8, 2303), (true, 9, 2559), (true, 10, 3071), (false, 12, 4095)] 8191 3 Pl.post_panic (by kernel_rfl) (by kernel_rfl) (by kernel_rfl) ?_
              refine Pl.qA_move hS8 rfl rfl rfl rfl rfl ?_
              refine Pl.qA_extract hS8 rfl rfl rfl rfl rfl rfl ?_
              refine Pl.qA_extract hS8 rfl rfl rfl rfl rfl rfl ?_
              refine Pl.qA_extract hS8 rfl rfl rfl rfl rfl rfl ?_
              refine allocI rfl rfl rfl rfl (fun _ k => Ext.below hS8 k) ?_
              intro N11 w9 hB9 z_N11 i_11
              have hS9 := Ext.below hS8 hB9
              refine Pl.pA_end ?_
              have i_5__9 := Ib.ext i_5 (Ext.below hB7 (Ext.below hB8 hB9))
              have h_x9__9 := Zn.below h_x9 hB9
              have h_x10__9 := Zn.below h_x10 hB9
              exact Pl.G_sub [(4, .pointer (some ⟨N2, 0, none⟩)), (5, .pointer (some ⟨N5, 0, none⟩)), (6, .pointer (some ⟨N11, 0, none⟩)), (25, v_x9), (26, v_x10), (27, (.int .i64 0))] (Pl.subl_cons rfl (Pl.subl_cons rfl (Pl.subl_cons rfl (Pl.subl_cons rfl (Pl.subl_cons rfl (Pl.subl_cons rfl Pl.subl_nil)))))) (hK _ _ ⟨N5, N11, v_x9, v_x10, rfl, (Ext.below hB3 (Ext.below hB4 (Ext.below hB5 (Ext.below hB6 (Ext.below hB7 (Ext.below hB8 hB9)))))), (Nat.le_trans (Below.size (Ext.below hB3 (Ext.below hB4 hB5))) z_N5), i_5__9, (Nat.le_trans (Below.size (Ext.below hB3 (Ext.below hB4 (Ext.below hB5 (Ext.below hB6 (Ext.below hB7 hB8)))))) z_N11), i_11, h_x9__9, h_x10__9, (Nat.ne_of_lt (Nat.lt_of_lt_of_le (Ib.ext i_5 (Ext.below hB7 hB8)).1 z_N11))⟩)
            · refine allocI rfl rfl rfl rfl (fun _ k => Ext.below hS7 k) ?_
              intro N8 w8 hB8 z_N8 i_8
              have hS8 := Ext.below hS7 hB8
              refine Pl.pA_end ?_
              refine Pl.G_plan [(false, 6, 6207), (true, 7, 6271), (true, 8, 6399), (true, 9, 6655), (true, 10, 7167)] 8191 3 Pl.post_panic (by kernel_rfl) (by kernel_rfl) (by kernel_rfl) ?_
              have ha__8 := Zn.below ha (Ext.below hB1 (Ext.below hB2 (Ext.below hB3 (Ext.below hB4 (Ext.below hB5 (Ext.below hB6 (Ext.below hB7 hB8)))))))
              have h_x7__8 := Zn.below h_x7 hB8
              refine Pl.pA_call rfl rfl rfl rfl rfl en15 ?_
              refine Calls.mono (rzdiv_D _ _ _ a ((2 : Int) ^ k) ha__8 h_x7__8 (Sz.le hl (by decide)) (Sz.le b_x7 (by decide)) (two_ne k) (shl a (-((k : Nat) : Int))) _ (shl_neg a k).symm rfl) ?_
              rintro e w9 ⟨⟨v_x11, v_x12, rfl, h_x11, h_x12⟩, hB9⟩
              have hS9 := Ext.below hS8 hB9
              refine ⟨_, rfl, hS9, ?_⟩
              have b_x11 : Sz (a / ((2 : Int) ^ k)) 100 := Sz.div hl
              have b_x12 : Sz (a % ((2 : Int) ^ k)) 40 := Sz.mod b_x7 (two_ne k)
              refine Pl.qA_move hS9 rfl rfl rfl rfl rfl ?_
              refine Pl.qA_extract hS9 rfl rfl rfl rfl rfl rfl ?_
              refine Pl.qA_extract hS9 rfl rfl rfl rfl rfl rfl ?_
              refine Pl.qA_extract hS9 rfl rfl rfl rfl rfl rfl ?_
              refine Pl.pA_end ?_
              have i_5__9 := Ib.ext i_5 (Ext.below hB7 (Ext.below hB8 hB9))
              have i_8__9 := Ib.ext i_8 hB9
              exact Pl.G_sub [(4, .pointer (some ⟨N2, 0, none⟩)), (5, .pointer (some ⟨N5, 0, none⟩)), (6, .pointer (some ⟨N8, 0, none⟩)), (25, v_x11), (26, v_x12), (27, (.int .i64 0))] (Pl.subl_cons rfl (Pl.subl_cons rfl (Pl.subl_cons rfl (Pl.subl_cons rfl (Pl.subl_cons rfl (Pl.subl_cons rfl Pl.subl_nil)))))) (hK _ _ ⟨N5, N8, v_x11, v_x12, rfl, (Ext.below hB3 (Ext.below hB4 (Ext.below hB5 (Ext.below hB6 (Ext.below hB7 (Ext.below hB8 hB9)))))), (Nat.le_trans (Below.size (Ext.below hB3 (Ext.below hB4 hB5))) z_N5), i_5__9, (Nat.le_trans (Below.size (Ext.below hB3 (Ext.below hB4 (Ext.below hB5 (Ext.below hB6 hB7))))) z_N8), i_8__9, h_x11, h_x12, (Nat.ne_of_lt (Nat.lt_of_lt_of_le (Ib.ext i_5 hB7).1 z_N8))⟩)
          · refine allocI rfl rfl rfl rfl (fun _ k => Ext.below hS6 k) ?_
            intro N6 w7 hB7 z_N6 i_6
            have hS7 := Ext.below hS6 hB7
            refine Pl.pA_end ?_
            refine Pl.G_plan [(false, 5, 6175), (false, 6, 6207), (true, 7, 6271), (true, 8, 6399), (true, 9, 6655), (true, 10, 7167)] 8191 3 Pl.post_panic (by kernel_rfl) (by kernel_rfl) (by kernel_rfl) ?_
            have h_x4__7 := Un.below h_x4 (Ext.below hB6 hB7)
            refine Pl.pA_call rfl rfl rfl rfl rfl en22 ?_
            refine Calls.mono (rzmake _ false _ (limbs (1 * 2 ^ k)) h_x4__7 (by rw [Nat.one_mul]; exact Nat.le_trans (two_len (M := 40) (by omega)) (by decide)) _ (val_limbs _) ((2 : Int) ^ k) (sg_two k)) ?_
            rintro e w8 ⟨v_x8, rfl, h_x8, hB8⟩
            have hS8 := Ext.below hS7 hB8
            refine ⟨_, rfl, hS8, ?_⟩
            have b_x8 : Sz ((2 : Int) ^ k) 40 := Sz.two (by omega)
            have ha__8 := Zn.below ha (Ext.below hB1 (Ext.below hB2 (Ext.below hB3 (Ext.below hB4 (Ext.below hB5 (Ext.below hB6 (Ext.below hB7 hB8)))))))
            refine Pl.pA_call rfl rfl rfl rfl rfl en15 ?_
            refine Calls.mono (rzdiv_D _ _ _ a ((2 : Int) ^ k) ha__8 h_x8 (Sz.le hl (by decide)) (Sz.le b_x8 (by decide)) (two_ne k) (shl a (-((k : Nat) : Int))) _ (shl_neg a k).symm rfl) ?_
            rintro e w9 ⟨⟨v_x10, v_x11, rfl, h_x10, h_x11⟩, hB9⟩
            have hS9 := Ext.below hS8 hB9
            refine ⟨_, rfl, hS9, ?_⟩
            have b_x10 : Sz (a / ((2 : Int) ^ k)) 100 := Sz.div hl
            have b_x11 : Sz (a % ((2 : Int) ^ k)) 40 := Sz.mod b_x8 (two_ne k)
            refine Pl.qA_move hS9 rfl rfl rfl rfl rfl ?_
            refine Pl.qA_extract hS9 rfl rfl rfl rfl rfl rfl ?_
            refine Pl.qA_extract hS9 rfl rfl rfl rfl rfl rfl ?_
            refine Pl.qA_extract hS9 rfl rfl rfl rfl rfl rfl ?_
            refine Pl.pA_end ?_
            have i_5__9 := Ib.ext i_5 (Ext.below hB7 (Ext.below hB8 hB9))
            have i_6__9 := Ib.ext i_6 (Ext.below hB8 hB9)
            exact Pl.G_sub [(4, .pointer (some ⟨N2, 0, none⟩)), (5, .pointer (some ⟨N5, 0, none⟩)), (6, .pointer (some ⟨N6, 0, none⟩)), (25, v_x10), (26, v_x11), (27, (.int .i64 0))] (Pl.subl_cons rfl (Pl.subl_cons rfl (Pl.subl_cons rfl (Pl.subl_cons rfl (Pl.subl_cons rfl (Pl.subl_cons rfl Pl.subl_nil)))))) (hK _ _ ⟨N5, N6, v_x10, v_x11, rfl, (Ext.below hB3 (Ext.below hB4 (Ext.below hB5 (Ext.below hB6 (Ext.below hB7 (Ext.below hB8 hB9)))))), (Nat.le_trans (Below.size (Ext.below hB3 (Ext.below hB4 hB5))) z_N5), i_5__9, (Nat.le_trans (Below.size (Ext.below hB3 (Ext.below hB4 (Ext.below hB5 hB6)))) z_N6), i_6__9, h_x10, h_x11, (Nat.ne_of_lt (Nat.lt_of_lt_of_le (i_5).1 z_N6))⟩)
        · refine allocI rfl rfl rfl rfl (fun _ k => Ext.below hS5 k) ?_
          intro N5 w6 hB6 z_N5 i_5
          have hS6 := Ext.below hS5 hB6
          refine Pl.pA_end ?_
          refine Pl.G_any [5, 11] 9 (by kernel_rfl) (by kernel_rfl) (by kernel_rfl) (Pl.AllG_cons ?_ (Pl.AllG_cons ?_ Pl.AllG_nil))
          · have h_x4__6 := Un.below h_x4 hB6
            refine Pl.pA_call rfl rfl rfl rfl rfl en22 ?_
            refine Calls.mono (rzmake _ false _ (limbs (1 * 2 ^ k)) h_x4__6 (by rw [Nat.one_mul]; exact Nat.le_trans (two_len (M := 40) (by omega)) (by decide)) _ (val_limbs _) ((2 : Int) ^ k) (sg_two k)) ?_
            rintro e w7 ⟨v_x7, rfl, h_x7, hB7⟩
            have hS7 := Ext.below hS6 hB7
            refine ⟨_, rfl, hS7, ?_⟩
            have b_x7 : Sz ((2 : Int) ^ k) 40 := Sz.two (by omega)
            refine Pl.pA_end ?_
            refine Pl.G_any [6, 11] 8 (by kernel_rfl) (by kernel_rfl) (by kernel_rfl) (Pl.AllG_cons ?_ (Pl.AllG_cons ?_ Pl.AllG_nil))
            · have ha__7 := Zn.below ha (Ext.below hB1 (Ext.below hB2 (Ext.below hB3 (Ext.below hB4 (Ext.below hB5 (Ext.below hB6 hB7))))))
              refine Pl.pA_call rfl rfl rfl rfl rfl en15 ?_
              refine Calls.mono (rzdiv_D _ _ _ a ((2 : Int) ^ k) ha__7 h_x7 (Sz.le hl (by decide)) (Sz.le b_x7 (by decide)) (two_ne k) (shl a (-((k : Nat) : Int))) _ (shl_neg a k).symm rfl) ?_
              rintro e w8 ⟨⟨v_x9, v_x10, rfl, h_x9, h_x10⟩, hB8⟩
              have hS8 := Ext.below hS7 hB8
              refine ⟨_, rfl, hS8, ?_⟩
              have b_x9 : Sz (a / ((2 : Int) ^ k)) 100 := Sz.div hl
              have b_x10 : Sz (a % ((2 : Int) ^ k)) 40 := Sz.mod b_x7 (two_ne k)
              refine Pl.pA_end ?_
              refine Pl.G_plan [(true, 7, 4223), (true, 8, 4351), (true, 9, 4607), (true, 10, 5119), (false, 11, 6143)] 8191 3 Pl.post_panic (by kernel_rfl) (by kernel_rfl) (by kernel_rfl) ?_
              refine Pl.qA_move hS8 rfl rfl rfl rfl rfl ?_
              refine Pl.qA_extract hS8 rfl rfl rfl rfl rfl rfl ?_
              refine Pl.qA_extract hS8 rfl rfl rfl rfl rfl rfl ?_
              refine Pl.qA_extract hS8 rfl rfl rfl rfl rfl rfl ?_
              refine allocI rfl rfl rfl rfl (fun _ k => Ext.below hS8 k) ?_
              intro N11 w9 hB9 z_N11 i_11
              have hS9 := Ext.below hS8 hB9
              refine Pl.pA_end ?_
              have i_5__9 := Ib.ext i_5 (Ext.below hB7 (Ext.below hB8 hB9))
              have h_x9__9 := Zn.below h_x9 hB9
              have h_x10__9 := Zn.below h_x10 hB9
              exact Pl.G_sub [(4, .pointer (some ⟨N2, 0, none⟩)), (5, .pointer (some ⟨N11, 0, none⟩)), (6, .pointer (some ⟨N5, 0, none⟩)), (25, v_x9), (26, v_x10), (27, (.int .i64 0))] (Pl.subl_cons rfl (Pl.subl_cons rfl (Pl.subl_cons rfl (Pl.subl_cons rfl (Pl.subl_cons rfl (Pl.subl_cons rfl Pl.subl_nil)))))) (hK _ _ ⟨N11, N5, v_x9, v_x10, rfl, (Ext.below hB3 (Ext.below hB4 (Ext.below hB5 (Ext.below hB6 (Ext.below hB7 (Ext.below hB8 hB9)))))), (Nat.le_trans (Below.size (Ext.below hB3 (Ext.below hB4 (Ext.below hB5 (Ext.below hB6 (Ext.below hB7 hB8)))))) z_N11), i_11, (Nat.le_trans (Below.size (Ext.below hB3 (Ext.below hB4 hB5))) z_N5), i_5__9, h_x9__9, h_x10__9, (Nat.ne_of_gt (Nat.lt_of_lt_of_le (Ib.ext i_5 (Ext.below hB7 hB8)).1 z_N11))⟩)
            · refine allocI rfl rfl rfl rfl (fun _ k => Ext.below hS7 k) ?_
              intro N8 w8 hB8 z_N8 i_8
              have hS8 := Ext.below hS7 hB8
              refine Pl.pA_end ?_
              refine Pl.G_plan [(false, 6, 6207), (true, 7, 6271), (true, 8, 6399), (true, 9, 6655), (true, 10, 7167)] 8191 3 Pl.post_panic (by kernel_rfl) (by kernel_rfl) (by kernel_rfl) ?_
              have ha__8 := Zn.below ha (Ext.below hB1 (Ext.below hB2 (Ext.below hB3 (Ext.below hB4 (Ext.below hB5 (Ext.below hB6 (Ext.below hB7 hB8)))))))
              have h_x7__8 := Zn.below h_x7 hB8
              refine Pl.pA_call rfl rfl rfl rfl rfl en15 ?_
              refine Calls.mono (rzdiv_D _ _ _ a ((2 : Int) ^ k) ha__8 h_x7__8 (Sz.le hl (by decide)) (Sz.le b_x7 (by decide)) (two_ne k) (shl a (-((k : Nat) : Int))) _ (shl_neg a k).symm rfl) ?_
              rintro e w9 ⟨⟨v_x11, v_x12, rfl, h_x11, h_x12⟩, hB9⟩
              have hS9 := Ext.below hS8 hB9
              refine ⟨_, rfl, hS9, ?_⟩
              have b_x11 : Sz (a / ((2 : Int) ^ k)) 100 := Sz.div hl
              have b_x12 : Sz (a % ((2 : Int) ^ k)) 40 := Sz.mod b_x7 (two_ne k)
              refine Pl.qA_move hS9 rfl rfl rfl rfl rfl ?_
              refine Pl.qA_extract hS9 rfl rfl rfl rfl rfl rfl ?_
              refine Pl.qA_extract hS9 rfl rfl rfl rfl rfl rfl ?_
              refine Pl.qA_extract hS9 rfl rfl rfl rfl rfl rfl ?_
              refine Pl.pA_end ?_
              have i_8__9 := Ib.ext i_8 hB9
              have i_5__9 := Ib.ext i_5 (Ext.below hB7 (Ext.below hB8 hB9))
              exact Pl.G_sub [(4, .pointer (some ⟨N2, 0, none⟩)), (5, .pointer (some ⟨N8, 0, none⟩)), (6, .pointer (some ⟨N5, 0, none⟩)), (25, v_x11), (26, v_x12), (27, (.int .i64 0))] (Pl.subl_cons rfl (Pl.subl_cons rfl (Pl.subl_cons rfl (Pl.subl_cons rfl (Pl.subl_cons rfl (Pl.subl_cons rfl Pl.subl_nil)))))) (hK _ _ ⟨N8, N5, v_x11, v_x12, rfl, (Ext.below hB3 (Ext.below hB4 (Ext.below hB5 (Ext.below hB6 (Ext.below hB7 (Ext.below hB8 hB9)))))), (Nat.le_trans (Below.size (Ext.below hB3 (Ext.below hB4 (Ext.below hB5 (Ext.below hB6 hB7))))) z_N8), i_8__9, (Nat.le_trans (Below.size (Ext.below hB3 (Ext.below hB4 hB5))) z_N5), i_5__9, h_x11, h_x12, (Nat.ne_of_gt (Nat.lt_of_lt_of_le (Ib.ext i_5 hB7).1 z_N8))⟩)
          · refine allocI rfl rfl rfl rfl (fun _ k => Ext.below hS6 k) ?_
            intro N6 w7 hB7 z_N6 i_6
            have hS7 := Ext.below hS6 hB7
            refine Pl.pA_end ?_
            refine Pl.G_plan [(false, 5, 6175), (false, 6, 6207), (true, 7, 6271), (true, 8, 6399), (true, 9, 6655), (true, 10, 7167)] 8191 3 Pl.post_panic (by kernel_rfl) (by kernel_rfl) (by kernel_rfl) ?_
            have h_x4__7 := Un.below h_x4 (Ext.below hB6 hB7)
            refine Pl.pA_call rfl rfl rfl rfl rfl en22 ?_
            refine Calls.mono (rzmake _ false _ (limbs (1 * 2 ^ k)) h_x4__7 (by rw [Nat.one_mul]; exact Nat.le_trans (two_len (M := 40) (by omega)) (by decide)) _ (val_limbs _) ((2 : Int) ^ k) (sg_two k)) ?_
            rintro e w8 ⟨v_x8, rfl, h_x8, hB8⟩
            have hS8 := Ext.below hS7 hB8
            refine ⟨_, rfl, hS8, ?_⟩
            have b_x8 : Sz ((2 : Int) ^ k) 40 := Sz.two (by omega)
            have ha__8 := Zn.below ha (Ext.below hB1 (Ext.below hB2 (Ext.below hB3 (Ext.below hB4 (Ext.below hB5 (Ext.below hB6 (Ext.below hB7 hB8)))))))
            refine Pl.pA_call rfl rfl rfl rfl rfl en15 ?_
            refine Calls.mono (rzdiv_D _ _ _ a ((2 : Int) ^ k) ha__8 h_x8 (Sz.le hl (by decide)) (Sz.le b_x8 (by decide)) (two_ne k) (shl a (-((k : Nat) : Int))) _ (shl_neg a k).symm rfl) ?_
            rintro e w9 ⟨⟨v_x10, v_x11, rfl, h_x10, h_x11⟩, hB9⟩
            have hS9 := Ext.below hS8 hB9
            refine ⟨_, rfl, hS9, ?_⟩
            have b_x10 : Sz (a / ((2 : Int) ^ k)) 100 := Sz.div hl
            have b_x11 : Sz (a % ((2 : Int) ^ k)) 40 := Sz.mod b_x8 (two_ne k)
            refine Pl.qA_move hS9 rfl rfl rfl rfl rfl ?_
            refine Pl.qA_extract hS9 rfl rfl rfl rfl rfl rfl ?_
            refine Pl.qA_extract hS9 rfl rfl rfl rfl rfl rfl ?_
            refine Pl.qA_extract hS9 rfl rfl rfl rfl rfl rfl ?_
            refine Pl.pA_end ?_
            have i_6__9 := Ib.ext i_6 (Ext.below hB8 hB9)
            have i_5__9 := Ib.ext i_5 (Ext.below hB7 (Ext.below hB8 hB9))
            exact Pl.G_sub [(4, .pointer (some ⟨N2, 0, none⟩)), (5, .pointer (some ⟨N6, 0, none⟩)), (6, .pointer (some ⟨N5, 0, none⟩)), (25, v_x10), (26, v_x11), (27, (.int .i64 0))] (Pl.subl_cons rfl (Pl.subl_cons rfl (Pl.subl_cons rfl (Pl.subl_cons rfl (Pl.subl_cons rfl (Pl.subl_cons rfl Pl.subl_nil)))))) (hK _ _ ⟨N6, N5, v_x10, v_x11, rfl, (Ext.below hB3 (Ext.below hB4 (Ext.below hB5 (Ext.below hB6 (Ext.below hB7 (Ext.below hB8 hB9)))))), (Nat.le_trans (Below.size (Ext.below hB3 (Ext.below hB4 (Ext.below hB5 hB6)))) z_N6), i_6__9, (Nat.le_trans (Below.size (Ext.below hB3 (Ext.below hB4 hB5))) z_N5), i_5__9, h_x10, h_x11, (Nat.ne_of_gt (Nat.lt_of_lt_of_le (i_5).1 z_N6))⟩)
      · refine allocI rfl rfl rfl rfl (fun _ k => Ext.below hS4 k) ?_
        intro N4 w5 hB5 z_N4 i_4
        have hS5 := Ext.below hS4 hB5
        refine Pl.pA_end ?_
        refine Pl.G_any [4, 12] 10 (by kernel_rfl) (by kernel_rfl) (by kernel_rfl) (Pl.AllG_cons ?_ (Pl.AllG_cons ?_ Pl.AllG_nil))
        · have us_3__5 := U.below us_3 hB5
          refine Pl.pA_call rfl rfl rfl rfl rfl en76 ?_
          refine Calls.mono (rshl_B _ _ 1 k (U.one us_3__5) (by omega) (Nat.le_trans (Sz.lit (z := 1) (K := 1) (by decide) (by decide)) (by decide)) _ rfl) ?_
          rintro e w6 ⟨v_x5, rfl, h_x5, hB6⟩
          have hS6 := Ext.below hS5 hB6
          refine ⟨_, rfl, hS6, ?_⟩
          refine Pl.pA_end ?_
          refine Pl.G_any [5, 12] 9 (by kernel_rfl) (by kernel_rfl) (by kernel_rfl) (Pl.AllG_cons ?_ (Pl.AllG_cons ?_ Pl.AllG_nil))
          · refine Pl.pA_call rfl rfl rfl rfl rfl en22 ?_
            refine Calls.mono (rzmake _ false _ (limbs (1 * 2 ^ k)) h_x5 (by rw [Nat.one_mul]; exact Nat.le_trans (two_len (M := 40) (by omega)) (by decide)) _ (val_limbs _) ((2 : Int) ^ k) (sg_two k)) ?_
            rintro e w7 ⟨v_x7, rfl, h_x7, hB7⟩
            have hS7 := Ext.below hS6 hB7
            refine ⟨_, rfl, hS7, ?_⟩
            have b_x7 : Sz ((2 : Int) ^ k) 40 := Sz.two (by omega)
            refine Pl.pA_end ?_
            refine Pl.G_any [6, 12] 8 (by kernel_rfl) (by kernel_rfl) (by kernel_rfl) (Pl.AllG_cons ?_ (Pl.AllG_cons ?_ Pl.AllG_nil))
            · have ha__7 := Zn.below ha (Ext.below hB1 (Ext.below hB2 (Ext.below hB3 (Ext.below hB4 (Ext.below hB5 (Ext.below hB6 hB7))))))
              refine Pl.pA_call rfl rfl rfl rfl rfl en15 ?_
              refine Calls.mono (rzdiv_D _ _ _ a ((2 : Int) ^ k) ha__7 h_x7 (Sz.le hl (by decide)) (Sz.le b_x7 (by decide)) (two_ne k) (shl a (-((k : Nat) : Int))) _ (shl_neg a k).symm rfl) ?_
              rintro e w8 ⟨⟨v_x9, v_x10, rfl, h_x9, h_x10⟩, hB8⟩
              have hS8 := Ext.below hS7 hB8
              refine ⟨_, rfl, hS8, ?_⟩
              have b_x9 : Sz (a / ((2 : Int) ^ k)) 100 := Sz.div hl
              have b_x10 : Sz (a % ((2 : Int) ^ k)) 40 := Sz.mod b_x7 (two_ne k)
              refine Pl.pA_end ?_
              refine Pl.G_plan [(true, 7, 2175), (true, 8, 2303), (true, 9, 2559), (true, 10, 3071), (false, 12, 4095)] 8191 3 Pl.post_panic (by kernel_rfl) (by kernel_rfl) (by kernel_rfl) ?_
              refine Pl.qA_move hS8 rfl rfl rfl rfl rfl ?_
              refine Pl.qA_extract hS8 rfl rfl rfl rfl rfl rfl ?_
              refine Pl.qA_extract hS8 rfl rfl rfl rfl rfl rfl ?_
              refine Pl.qA_extract hS8 rfl rfl rfl rfl rfl rfl ?_
              refine allocI rfl rfl rfl rfl (fun _ k => Ext.below hS8 k) ?_
              intro N11 w9 hB9 z_N11 i_11
              have hS9 := Ext.below hS8 hB9
              refine Pl.pA_end ?_
              have i_4__9 := Ib.ext i_4 (Ext.below hB6 (Ext.below hB7 (Ext.below hB8 hB9)))
              have h_x9__9 := Zn.below h_x9 hB9
              have h_x10__9 := Zn.below h_x10 hB9
              exact Pl.G_sub [(4, .pointer (some ⟨N2, 0, none⟩)), (5, .pointer (some ⟨N4, 0, none⟩)), (6, .pointer (some ⟨N11, 0, none⟩)), (25, v_x9), (26, v_x10), (27, (.int .i64 0))] (Pl.subl_cons rfl (Pl.subl_cons rfl (Pl.subl_cons rfl (Pl.subl_cons rfl (Pl.subl_cons rfl (Pl.subl_cons rfl Pl.subl_nil)))))) (hK _ _ ⟨N4, N11, v_x9, v_x10, rfl, (Ext.below hB3 (Ext.below hB4 (Ext.below hB5 (Ext.below hB6 (Ext.below hB7 (Ext.below hB8 hB9)))))), (Nat.le_trans (Below.size (Ext.below hB3 hB4)) z_N4), i_4__9, (Nat.le_trans (Below.size (Ext.below hB3 (Ext.below hB4 (Ext.below hB5 (Ext.below hB6 (Ext.below hB7 hB8)))))) z_N11), i_11, h_x9__9, h_x10__9, (Nat.ne_of_lt (Nat.lt_of_lt_of_le (Ib.ext i_4 (Ext.below hB6 (Ext.below hB7 hB8))).1 z_N11))⟩)
            · refine allocI rfl rfl rfl rfl (fun _ k => Ext.below hS7 k) ?_
              intro N8 w8 hB8 z_N8 i_8
              have hS8 := Ext.below hS7 hB8
              refine Pl.pA_end ?_
              refine Pl.G_plan [(false, 6, 6207), (true, 7, 6271), (true, 8, 6399), (true, 9, 6655), (true, 10, 7167)] 8191 3 Pl.post_panic (by kernel_rfl) (by kernel_rfl) (by kernel_rfl) ?_
              have ha__8 := Zn.below ha (Ext.below hB1 (Ext.below hB2 (Ext.below hB3 (Ext.below hB4 (Ext.below hB5 (Ext.below hB6 (Ext.below hB7 hB8)))))))
              have h_x7__8 := Zn.below h_x7 hB8
              refine Pl.pA_call rfl rfl rfl rfl rfl en15 ?_
              refine Calls.mono (rzdiv_D _ _ _ a ((2 : Int) ^ k) ha__8 h_x7__8 (Sz.le hl (by decide)) (Sz.le b_x7 (by decide)) (two_ne k) (shl a (-((k : Nat) : Int))) _ (shl_neg a k).symm rfl) ?_
              rintro e w9 ⟨⟨v_x11, v_x12, rfl, h_x11, h_x12⟩, hB9⟩
              have hS9 := Ext.below hS8 hB9
              refine ⟨_, rfl, hS9, ?_⟩
              have b_x11 : Sz (a / ((2 : Int) ^ k)) 100 := Sz.div hl
              have b_x12 : Sz (a % ((2 : Int) ^ k)) 40 := Sz.mod b_x7 (two_ne k)
              refine Pl.qA_move hS9 rfl rfl rfl rfl rfl ?_
              refine Pl.qA_extract hS9 rfl rfl rfl rfl rfl rfl ?_
              refine Pl.qA_extract hS9 rfl rfl rfl rfl rfl rfl ?_
              refine Pl.qA_extract hS9 rfl rfl rfl rfl rfl rfl ?_
              refine Pl.pA_end ?_
              have i_4__9 := Ib.ext i_4 (Ext.below hB6 (Ext.below hB7 (Ext.below hB8 hB9)))
              have i_8__9 := Ib.ext i_8 hB9
              exact Pl.G_sub [(4, .pointer (some ⟨N2, 0, none⟩)), (5, .pointer (some ⟨N4, 0, none⟩)), (6, .pointer (some ⟨N8, 0, none⟩)), (25, v_x11), (26, v_x12), (27, (.int .i64 0))] (Pl.subl_cons rfl (Pl.subl_cons rfl (Pl.subl_cons rfl (Pl.subl_cons rfl (Pl.subl_cons rfl (Pl.subl_cons rfl Pl.subl_nil)))))) (hK _ _ ⟨N4, N8, v_x11, v_x12, rfl, (Ext.below hB3 (Ext.below hB4 (Ext.below hB5 (Ext.below hB6 (Ext.below hB7 (Ext.below hB8 hB9)))))), (Nat.le_trans (Below.size (Ext.below hB3 hB4)) z_N4), i_4__9, (Nat.le_trans (Below.size (Ext.below hB3 (Ext.below hB4 (Ext.below hB5 (Ext.below hB6 hB7))))) z_N8), i_8__9, h_x11, h_x12, (Nat.ne_of_lt (Nat.lt_of_lt_of_le (Ib.ext i_4 (Ext.below hB6 hB7)).1 z_N8))⟩)
          · refine allocI rfl rfl rfl rfl (fun _ k => Ext.below hS6 k) ?_
            intro N7 w7 hB7 z_N7 i_7
            have hS7 := Ext.below hS6 hB7
            refine Pl.pA_end ?_
            refine Pl.G_plan [(false, 5, 6175), (false, 6, 6207), (true, 7, 6271), (true, 8, 6399), (true, 9, 6655), (true, 10, 7167)] 8191 3 Pl.post_panic (by kernel_rfl) (by kernel_rfl) (by kernel_rfl) ?_
            have h_x5__7 := Un.below h_x5 hB7
            refine Pl.pA_call rfl rfl rfl rfl rfl en22 ?_
            refine Calls.mono (rzmake _ false _ (limbs (1 * 2 ^ k)) h_x5__7 (by rw [Nat.one_mul]; exact Nat.le_trans (two_len (M := 40) (by omega)) (by decide)) _ (val_limbs _) ((2 : Int) ^ k) (sg_two k)) ?_
            rintro e w8 ⟨v_x9, rfl, h_x9, hB8⟩
            have hS8 := Ext.below hS7 hB8
            refine ⟨_, rfl, hS8, ?_⟩
            have b_x9 : Sz ((2 : Int) ^ k) 40 := Sz.two (by omega)
            have ha__8 := Zn.below ha (Ext.below hB1 (Ext.below hB2 (Ext.below hB3 (Ext.below hB4 (Ext.below hB5 (Ext.below hB6 (Ext.below hB7 hB8)))))))
            refine Pl.pA_call rfl rfl rfl rfl rfl en15 ?_
            refine Calls.mono (rzdiv_D _ _ _ a ((2 : Int) ^ k) ha__8 h_x9 (Sz.le hl (by decide)) (Sz.le b_x9 (by decide)) (two_ne k) (shl a (-((k : Nat) : Int))) _ (shl_neg a k).symm rfl) ?_
            rintro e w9 ⟨⟨v_x11, v_x12, rfl, h_x11, h_x12⟩, hB9⟩
            have hS9 := Ext.below hS8 hB9
            refine ⟨_, rfl, hS9, ?_⟩
            have b_x11 : Sz (a / ((2 : Int) ^ k)) 100 := Sz.div hl
            have b_x12 : Sz (a % ((2 : Int) ^ k)) 40 := Sz.mod b_x9 (two_ne k)
            refine Pl.qA_move hS9 rfl rfl rfl rfl rfl ?_
            refine Pl.qA_extract hS9 rfl rfl rfl rfl rfl rfl ?_
            refine Pl.qA_extract hS9 rfl rfl rfl rfl rfl rfl ?_
            refine Pl.qA_extract hS9 rfl rfl rfl rfl rfl rfl ?_
            refine Pl.pA_end ?_
            have i_4__9 := Ib.ext i_4 (Ext.below hB6 (Ext.below hB7 (Ext.below hB8 hB9)))
            have i_7__9 := Ib.ext i_7 (Ext.below hB8 hB9)
            exact Pl.G_sub [(4, .pointer (some ⟨N2, 0, none⟩)), (5, .pointer (some ⟨N4, 0, none⟩)), (6, .pointer (some ⟨N7, 0, none⟩)), (25, v_x11), (26, v_x12), (27, (.int .i64 0))] (Pl.subl_cons rfl (Pl.subl_cons rfl (Pl.subl_cons rfl (Pl.subl_cons rfl (Pl.subl_cons rfl (Pl.subl_cons rfl Pl.subl_nil)))))) (hK _ _ ⟨N4, N7, v_x11, v_x12, rfl, (Ext.below hB3 (Ext.below hB4 (Ext.below hB5 (Ext.below hB6 (Ext.below hB7 (Ext.below hB8 hB9)))))), (Nat.le_trans (Below.size (Ext.below hB3 hB4)) z_N4), i_4__9, (Nat.le_trans (Below.size (Ext.below hB3 (Ext.below hB4 (Ext.below hB5 hB6)))) z_N7), i_7__9, h_x11, h_x12, (Nat.ne_of_lt (Nat.lt_of_lt_of_le (Ib.ext i_4 hB6).1 z_N7))⟩)
        · refine allocI rfl rfl rfl rfl (fun _ k => Ext.below hS5 k) ?_
          intro N5 w6 hB6 z_N5 i_5
          have hS6 := Ext.below hS5 hB6
          refine Pl.pA_end ?_
          refine Pl.G_plan [(false, 4, 6159), (false, 5, 6175), (false, 6, 6207), (true, 7, 6271), (true, 8, 6399), (true, 9, 6655), (true, 10, 7167)] 8191 3 Pl.post_panic (by kernel_rfl) (by kernel_rfl) (by kernel_rfl) ?_
          have us_3__6 := U.below us_3 (Ext.below hB5 hB6)
          refine Pl.pA_call rfl rfl rfl rfl rfl en76 ?_
          refine Calls.mono (rshl_B _ _ 1 k (U.one us_3__6) (by omega) (Nat.le_trans (Sz.lit (z := 1) (K := 1) (by decide) (by decide)) (by decide)) _ rfl) ?_
          rintro e w7 ⟨v_x6, rfl, h_x6, hB7⟩
          have hS7 := Ext.below hS6 hB7
          refine ⟨_, rfl, hS7, ?_⟩
          refine Pl.pA_call rfl rfl rfl rfl rfl en22 ?_
          refine Calls.mono (rzmake _ false _ (limbs (1 * 2 ^ k)) h_x6 (by rw [Nat.one_mul]; exact Nat.le_trans (two_len (M := 40) (by omega)) (by decide)) _ (val_limbs _) ((2 : Int) ^ k) (sg_two k)) ?_
          rintro e w8 ⟨v_x8, rfl, h_x8, hB8⟩
          have hS8 := Ext.below hS7 hB8
          refine ⟨_, rfl, hS8, ?_⟩
          have b_x8 : Sz ((2 : Int) ^ k) 40 := Sz.two (by omega)
          have ha__8 := Zn.below ha (Ext.below hB1 (Ext.below hB2 (Ext.below hB3 (Ext.below hB4 (Ext.below hB5 (Ext.below hB6 (Ext.below hB7 hB8)))))))
          refine Pl.pA_call rfl rfl rfl rfl rfl en15 ?_
          refine Calls.mono (rzdiv_D _ _ _ a ((2 : Int) ^ k) ha__8 h_x8 (Sz.le hl (by decide)) (Sz.le b_x8 (by decide)) (two_ne k) (shl a (-((k : Nat) : Int))) _ (shl_neg a k).symm rfl) ?_
          rintro e w9 ⟨⟨v_x10, v_x11, rfl, h_x10, h_x11⟩, hB9⟩
          have hS9 := Ext.below hS8 hB9
          refine ⟨_, rfl, hS9, ?_⟩
          have b_x10 : Sz (a / ((2 : Int) ^ k)) 100 := Sz.div hl
          have b_x11 : Sz (a % ((2 : Int) ^ k)) 40 := Sz.mod b_x8 (two_ne k)
          refine Pl.qA_move hS9 rfl rfl rfl rfl rfl ?_
          refine Pl.qA_extract hS9 rfl rfl rfl rfl rfl rfl ?_
          refine Pl.qA_extract hS9 rfl rfl rfl rfl rfl rfl ?_
          refine Pl.qA_extract hS9 rfl rfl rfl rfl rfl rfl ?_
          refine Pl.pA_end ?_
          have i_4__9 := Ib.ext i_4 (Ext.below hB6 (Ext.below hB7 (Ext.below hB8 hB9)))
          have i_5__9 := Ib.ext i_5 (Ext.below hB7 (Ext.below hB8 hB9))
          exact Pl.G_sub [(4, .pointer (some ⟨N2, 0, none⟩)), (5, .pointer (some ⟨N4, 0, none⟩)), (6, .pointer (some ⟨N5, 0, none⟩)), (25, v_x10), (26, v_x11), (27, (.int .i64 0))] (Pl.subl_cons rfl (Pl.subl_cons rfl (Pl.subl_cons rfl (Pl.subl_cons rfl (Pl.subl_cons rfl (Pl.subl_cons rfl Pl.subl_nil)))))) (hK _ _ ⟨N4, N5, v_x10, v_x11, rfl, (Ext.below hB3 (Ext.below hB4 (Ext.below hB5 (Ext.below hB6 (Ext.below hB7 (Ext.below hB8 hB9)))))), (Nat.le_trans (Below.size (Ext.below hB3 hB4)) z_N4), i_4__9, (Nat.le_trans (Below.size (Ext.below hB3 (Ext.below hB4 hB5))) z_N5), i_5__9, h_x10, h_x11, (Nat.ne_of_lt (Nat.lt_of_lt_of_le (i_4).1 z_N5))⟩)
      · refine allocI rfl rfl rfl rfl (fun _ k => Ext.below hS4 k) ?_
        intro N4 w5 hB5 z_N4 i_4
        have hS5 := Ext.below hS4 hB5
        refine Pl.pA_end ?_
        refine Pl.G_any [4, 11] 10 (by kernel_rfl) (by kernel_rfl) (by kernel_rfl) (Pl.AllG_cons ?_ (Pl.AllG_cons ?_ Pl.AllG_nil))
        · have us_3__5 := U.below us_3 hB5
          refine Pl.pA_call rfl rfl rfl rfl rfl en76 ?_
          refine Calls.mono (rshl_B _ _ 1 k (U.one us_3__5) (by omega) (Nat.le_trans (Sz.lit (z := 1) (K := 1) (by decide) (by decide)) (by decide)) _ rfl) ?_
          rintro e w6 ⟨v_x5, rfl, h_x5, hB6⟩
          have hS6 := Ext.below hS5 hB6
          refine ⟨_, rfl, hS6, ?_⟩
          refine Pl.pA_end ?_
          refine Pl.G_any [5, 11] 9 (by kernel_rfl) (by kernel_rfl) (by kernel_rfl) (Pl.AllG_cons ?_ (Pl.AllG_cons ?_ Pl.AllG_nil))
          · refine Pl.pA_call rfl rfl rfl rfl rfl en22 ?_
            refine Calls.mono (rzmake _ false _ (limbs (1 * 2 ^ k)) h_x5 (by rw [Nat.one_mul]; exact Nat.le_trans (two_len (M := 40) (by omega)) (by decide)) _ (val_limbs _) ((2 : Int) ^ k) (sg_two k)) ?_
            rintro e w7 ⟨v_x7, rfl, h_x7, hB7⟩
            have hS7 := Ext.below hS6 hB7
            refine ⟨_, rfl, hS7, ?_⟩
            have b_x7 : Sz ((2 : Int) ^ k) 40 := Sz.two (by omega)
            refine Pl.pA_end ?_
            refine Pl.G_any [6, 11] 8 (by kernel_rfl) (by kernel_rfl) (by kernel_rfl) (Pl.AllG_cons ?_ (Pl.AllG_cons ?_ Pl.AllG_nil))
            · have ha__7 := Zn.below ha (Ext.below hB1 (Ext.below hB2 (Ext.below hB3 (Ext.below hB4 (Ext.below hB5 (Ext.below hB6 hB7))))))
              refine Pl.pA_call rfl rfl rfl rfl rfl en15 ?_
              refine Calls.mono (rzdiv_D _ _ _ a ((2 : Int) ^ k) ha__7 h_x7 (Sz.le hl (by decide)) (Sz.le b_x7 (by decide)) (two_ne k) (shl a (-((k : Nat) : Int))) _ (shl_neg a k).symm rfl) ?_
              rintro e w8 ⟨⟨v_x9, v_x10, rfl, h_x9, h_x10⟩, hB8⟩
              have hS8 := Ext.below hS7 hB8
              refine ⟨_, rfl, hS8, ?_⟩
              have b_x9 : Sz (a / ((2 : Int) ^ k)) 100 := Sz.div hl
              have b_x10 : Sz (a % ((2 : Int) ^ k)) 40 := Sz.mod b_x7 (two_ne k)
              refine Pl.pA_end ?_
              refine Pl.G_plan [(true, 7, 4223), (true, 8, 4351), (true, 9, 4607), (true, 10, 5119), (false, 11, 6143)] 8191 3 Pl.post_panic (by kernel_rfl) (by kernel_rfl) (by kernel_rfl) ?_
              refine Pl.qA_move hS8 rfl rfl rfl rfl rfl ?_
              refine Pl.qA_extract hS8 rfl rfl rfl rfl rfl rfl ?_
              refine Pl.qA_extract hS8 rfl rfl rfl rfl rfl rfl ?_
              refine Pl.qA_extract hS8 rfl rfl rfl rfl rfl rfl ?_
              refine allocI rfl rfl rfl rfl (fun _ k => Ext.below hS8 k) ?_
              intro N11 w9 hB9 z_N11 i_11
              have hS9 := Ext.below hS8 hB9
              refine Pl.pA_end ?_
              have i_4__9 := Ib.ext i_4 (Ext.below hB6 (Ext.below hB7 (Ext.below hB8 hB9)))
              have h_x9__9 := Zn.below h_x9 hB9
              have h_x10__9 := Zn.below h_x10 hB9
              exact Pl.G_sub [(4, .pointer (some ⟨N2, 0, none⟩)), (5, .pointer (some ⟨N11, 0, none⟩)), (6, .pointer (some ⟨N4, 0, none⟩)), (25, v_x9), (26, v_x10), (27, (.int .i64 0))] (Pl.subl_cons rfl (Pl.subl_cons rfl (Pl.subl_cons rfl (Pl.subl_cons rfl (Pl.subl_cons rfl (Pl.subl_cons rfl Pl.subl_nil)))))) (hK _ _ ⟨N11, N4, v_x9, v_x10, rfl, (Ext.below hB3 (Ext.below hB4 (Ext.below hB5 (Ext.below hB6 (Ext.below hB7 (Ext.below hB8 hB9)))))), (Nat.le_trans (Below.size (Ext.below hB3 (Ext.below hB4 (Ext.below hB5 (Ext.below hB6 (Ext.below hB7 hB8)))))) z_N11), i_11, (Nat.le_trans (Below.size (Ext.below hB3 hB4)) z_N4), i_4__9, h_x9__9, h_x10__9, (Nat.ne_of_gt (Nat.lt_of_lt_of_le (Ib.ext i_4 (Ext.below hB6 (Ext.below hB7 hB8))).1 z_N11))⟩)
            · refine allocI rfl rfl rfl rfl (fun _ k => Ext.below hS7 k) ?_
              intro N8 w8 hB8 z_N8 i_8
              have hS8 := Ext.below hS7 hB8
              refine Pl.pA_end ?_
              refine Pl.G_plan [(false, 6, 6207), (true, 7, 6271), (true, 8, 6399), (true, 9, 6655), (true, 10, 7167)] 8191 3 Pl.post_panic (by kernel_rfl) (by kernel_rfl) (by kernel_rfl) ?_
              have ha__8 := Zn.below ha (Ext.below hB1 (Ext.below hB2 (Ext.below hB3 (Ext.below hB4 (Ext.below hB5 (Ext.below hB6 (Ext.below hB7 hB8)))))))
              have h_x7__8 := Zn.below h_x7 hB8
              refine Pl.pA_call rfl rfl rfl rfl rfl en15 ?_
              refine Calls.mono (rzdiv_D _ _ _ a ((2 : Int) ^ k) ha__8 h_x7__8 (Sz.le hl (by decide)) (Sz.le b_x7 (by decide)) (two_ne k) (shl a (-((k : Nat) : Int))) _ (shl_neg a k).symm rfl) ?_
              rintro e w9 ⟨⟨v_x11, v_x12, rfl, h_x11, h_x12⟩, hB9⟩
              have hS9 := Ext.below hS8 hB9
              refine ⟨_, rfl, hS9, ?_⟩
              have b_x11 : Sz (a / ((2 : Int) ^ k)) 100 := Sz.div hl
              have b_x12 : Sz (a % ((2 : Int) ^ k)) 40 := Sz.mod b_x7 (two_ne k)
              refine Pl.qA_move hS9 rfl rfl rfl rfl rfl ?_
              refine Pl.qA_extract hS9 rfl rfl rfl rfl rfl rfl ?_
              refine Pl.qA_extract hS9 rfl rfl rfl rfl rfl rfl ?_
              refine Pl.qA_extract hS9 rfl rfl rfl rfl rfl rfl ?_
              refine Pl.pA_end ?_
              have i_8__9 := Ib.ext i_8 hB9
              have i_4__9 := Ib.ext i_4 (Ext.below hB6 (Ext.below hB7 (Ext.below hB8 hB9)))
              exact Pl.G_sub [(4, .pointer (some ⟨N2, 0, none⟩)), (5, .pointer (some ⟨N8, 0, none⟩)), (6, .pointer (some ⟨N4, 0, none⟩)), (25, v_x11), (26, v_x12), (27, (.int .i64 0))] (Pl.subl_cons rfl (Pl.subl_cons rfl (Pl.subl_cons rfl (Pl.subl_cons rfl (Pl.subl_cons rfl (Pl.subl_cons rfl Pl.subl_nil)))))) (hK _ _ ⟨N8, N4, v_x11, v_x12, rfl, (Ext.below hB3 (Ext.below hB4 (Ext.below hB5 (Ext.below hB6 (Ext.below hB7 (Ext.below hB8 hB9)))))), (Nat.le_trans (Below.size (Ext.below hB3 (Ext.below hB4 (Ext.below hB5 (Ext.below hB6 hB7))))) z_N8), i_8__9, (Nat.le_trans (Below.size (Ext.below hB3 hB4)) z_N4), i_4__9, h_x11, h_x12, (Nat.ne_of_gt (Nat.lt_of_lt_of_le (Ib.ext i_4 (Ext.below hB6 hB7)).1 z_N8))⟩)
          · refine allocI rfl rfl rfl rfl (fun _ k => Ext.below hS6 k) ?_
            intro N7 w7 hB7 z_N7 i_7
            have hS7 := Ext.below hS6 hB7
            refine Pl.pA_end ?_
            refine Pl.G_plan [(false, 5, 6175), (false, 6, 6207), (true, 7, 6271), (true, 8, 6399), (true, 9, 6655), (true, 10, 7167)] 8191 3 Pl.post_panic (by kernel_rfl) (by kernel_rfl) (by kernel_rfl) ?_
            have h_x5__7 := Un.below h_x5 hB7
            refine Pl.pA_call rfl rfl rfl rfl rfl en22 ?_
            refine Calls.mono (rzmake _ false _ (limbs (1 * 2 ^ k)) h_x5__7 (by rw [Nat.one_mul]; exact Nat.le_trans (two_len (M := 40) (by omega)) (by decide)) _ (val_limbs _) ((2 : Int) ^ k) (sg_two k)) ?_
            rintro e w8 ⟨v_x9, rfl, h_x9, hB8⟩
            have hS8 := Ext.below hS7 hB8
            refine ⟨_, rfl, hS8, ?_⟩
            have b_x9 : Sz ((2 : Int) ^ k) 40 := Sz.two (by omega)
            have ha__8 := Zn.below ha (Ext.below hB1 (Ext.below hB2 (Ext.below hB3 (Ext.below hB4 (Ext.below hB5 (Ext.below hB6 (Ext.below hB7 hB8)))))))
            refine Pl.pA_call rfl rfl rfl rfl rfl en15 ?_
            refine Calls.mono (rzdiv_D _ _ _ a ((2 : Int) ^ k) ha__8 h_x9 (Sz.le hl (by decide)) (Sz.le b_x9 (by decide)) (two_ne k) (shl a (-((k : Nat) : Int))) _ (shl_neg a k).symm rfl) ?_
            rintro e w9 ⟨⟨v_x11, v_x12, rfl, h_x11, h_x12⟩, hB9⟩
            have hS9 := Ext.below hS8 hB9
            refine ⟨_, rfl, hS9, ?_⟩
            have b_x11 : Sz (a / ((2 : Int) ^ k)) 100 := Sz.div hl
            have b_x12 : Sz (a % ((2 : Int) ^ k)) 40 := Sz.mod b_x9 (two_ne k)
            refine Pl.qA_move hS9 rfl rfl rfl rfl rfl ?_
            refine Pl.qA_extract hS9 rfl rfl rfl rfl rfl rfl ?_
            refine Pl.qA_extract hS9 rfl rfl rfl rfl rfl rfl ?_
            refine Pl.qA_extract hS9 rfl rfl rfl rfl rfl rfl ?_
            refine Pl.pA_end ?_
            have i_7__9 := Ib.ext i_7 (Ext.below hB8 hB9)
            have i_4__9 := Ib.ext i_4 (Ext.below hB6 (Ext.below hB7 (Ext.below hB8 hB9)))
            exact Pl.G_sub [(4, .pointer (some ⟨N2, 0, none⟩)), (5, .pointer (some ⟨N7, 0, none⟩)), (6, .pointer (some ⟨N4, 0, none⟩)), (25, v_x11), (26, v_x12), (27, (.int .i64 0))] (Pl.subl_cons rfl (Pl.subl_cons rfl (Pl.subl_cons rfl (Pl.subl_cons rfl (Pl.subl_cons rfl (Pl.subl_cons rfl Pl.subl_nil)))))) (hK _ _ ⟨N7, N4, v_x11, v_x12, rfl, (Ext.below hB3 (Ext.below hB4 (Ext.below hB5 (Ext.below hB6 (Ext.below hB7 (Ext.below hB8 hB9)))))), (Nat.le_trans (Below.size (Ext.below hB3 (Ext.below hB4 (Ext.below hB5 hB6)))) z_N7), i_7__9, (Nat.le_trans (Below.size (Ext.below hB3 hB4)) z_N4), i_4__9, h_x11, h_x12, (Nat.ne_of_gt (Nat.lt_of_lt_of_le (Ib.ext i_4 hB6).1 z_N7))⟩)
        · refine allocI rfl rfl rfl rfl (fun _ k => Ext.below hS5 k) ?_
          intro N5 w6 hB6 z_N5 i_5
          have hS6 := Ext.below hS5 hB6
          refine Pl.pA_end ?_
          refine Pl.G_plan [(false, 4, 6159), (false, 5, 6175), (false, 6, 6207), (true, 7, 6271), (true, 8, 6399), (true, 9, 6655), (true, 10, 7167)] 8191 3 Pl.post_panic (by kernel_rfl) (by kernel_rfl) (by kernel_rfl) ?_
          have us_3__6 := U.below us_3 (Ext.below hB5 hB6)
          refine Pl.pA_call rfl rfl rfl rfl rfl en76 ?_
          refine Calls.mono (rshl_B _ _ 1 k (U.one us_3__6) (by omega) (Nat.le_trans (Sz.lit (z := 1) (K := 1) (by decide) (by decide)) (by decide)) _ rfl) ?_
          rintro e w7 ⟨v_x6, rfl, h_x6, hB7⟩
          have hS7 := Ext.below hS6 hB7
          refine ⟨_, rfl, hS7, ?_⟩
          refine Pl.pA_call rfl rfl rfl rfl rfl en22 ?_
          refine Calls.mono (rzmake _ false _ (limbs (1 * 2 ^ k)) h_x6 (by rw [Nat.one_mul]; exact Nat.le_trans (two_len (M := 40) (by omega)) (by decide)) _ (val_limbs _) ((2 : Int) ^ k) (sg_two k)) ?_
          rintro e w8 ⟨v_x8, rfl, h_x8, hB8⟩
          have hS8 := Ext.below hS7 hB8
          refine ⟨_, rfl, hS8, ?_⟩
          have b_x8 : Sz ((2 : Int) ^ k) 40 := Sz.two (by omega)
          have ha__8 := Zn.below ha (Ext.below hB1 (Ext.below hB2 (Ext.below hB3 (Ext.below hB4 (Ext.below hB5 (Ext.below hB6 (Ext.below hB7 hB8)))))))
          refine Pl.pA_call rfl rfl rfl rfl rfl en15 ?_
          refine Calls.mono (rzdiv_D _ _ _ a ((2 : Int) ^ k) ha__8 h_x8 (Sz.le hl (by decide)) (Sz.le b_x8 (by decide)) (two_ne k) (shl a (-((k : Nat) : Int))) _ (shl_neg a k).symm rfl) ?_
          rintro e w9 ⟨⟨v_x10, v_x11, rfl, h_x10, h_x11⟩, hB9⟩
          have hS9 := Ext.below hS8 hB9
          refine ⟨_, rfl, hS9, ?_⟩
          have b_x10 : Sz (a / ((2 : Int) ^ k)) 100 := Sz.div hl
          have b_x11 : Sz (a % ((2 : Int) ^ k)) 40 := Sz.mod b_x8 (two_ne k)
          refine Pl.qA_move hS9 rfl rfl rfl rfl rfl ?_
          refine Pl.qA_extract hS9 rfl rfl rfl rfl rfl rfl ?_
          refine Pl.qA_extract hS9 rfl rfl rfl rfl rfl rfl ?_
          refine Pl.qA_extract hS9 rfl rfl rfl rfl rfl rfl ?_
          refine Pl.pA_end ?_
          have i_5__9 := Ib.ext i_5 (Ext.below hB7 (Ext.below hB8 hB9))
          have i_4__9 := Ib.ext i_4 (Ext.below hB6 (Ext.below hB7 (Ext.below hB8 hB9)))
          exact Pl.G_sub [(4, .pointer (some ⟨N2, 0, none⟩)), (5, .pointer (some ⟨N5, 0, none⟩)), (6, .pointer (some ⟨N4, 0, none⟩)), (25, v_x10), (26, v_x11), (27, (.int .i64 0))] (Pl.subl_cons rfl (Pl.subl_cons rfl (Pl.subl_cons rfl (Pl.subl_cons rfl (Pl.subl_cons rfl (Pl.subl_cons rfl Pl.subl_nil)))))) (hK _ _ ⟨N5, N4, v_x10, v_x11, rfl, (Ext.below hB3 (Ext.below hB4 (Ext.below hB5 (Ext.below hB6 (Ext.below hB7 (Ext.below hB8 hB9)))))), (Nat.le_trans (Below.size (Ext.below hB3 (Ext.below hB4 hB5))) z_N5), i_5__9, (Nat.le_trans (Below.size (Ext.below hB3 hB4)) z_N4), i_4__9, h_x10, h_x11, (Nat.ne_of_gt (Nat.lt_of_lt_of_le (i_4).1 z_N5))⟩)
    · refine allocI rfl rfl rfl rfl (fun _ k => Ext.below hS3 k) ?_
      intro N3 w4 hB4 z_N3 i_3
      have hS4 := Ext.below hS3 hB4
      refine Pl.pA_end ?_
      refine Pl.G_any [1, 12] 11 (by kernel_rfl) (by kernel_rfl) (by kernel_rfl) (Pl.AllG_cons ?_ (Pl.AllG_cons ?_ Pl.AllG_nil))
      · refine buildS1 (n := 1) (by decide) rfl rfl rfl rfl rfl (fun _ k => Ext.below hS4 k) ?_
        intro A4 w5 hB5 us_4
        have hS5 := Ext.below hS4 hB5
        refine Pl.pA_end ?_
        refine Pl.G_any [4, 12] 10 (by kernel_rfl) (by kernel_rfl) (by kernel_rfl) (Pl.AllG_cons ?_ (Pl.AllG_cons ?_ Pl.AllG_nil))
        · refine Pl.pA_call rfl rfl rfl rfl rfl en76 ?_
          refine Calls.mono (rshl_B _ _ 1 k (U.one us_4) (by omega) (Nat.le_trans (Sz.lit (z := 1) (K := 1) (by decide) (by decide)) (by decide)) _ rfl) ?_
          rintro e w6 ⟨v_x5, rfl, h_x5, hB6⟩
          have hS6 := Ext.below hS5 hB6
          refine ⟨_, rfl, hS6, ?_⟩
          refine Pl.pA_end ?_
          refine Pl.G_any [5, 12] 9 (by kernel_rfl) (by kernel_rfl) (by kernel_rfl) (Pl.AllG_cons ?_ (Pl.AllG_cons ?_ Pl.AllG_nil))
          · refine Pl.pA_call rfl rfl rfl rfl rfl en22 ?_
            refine Calls.mono (rzmake _ false _ (limbs (1 * 2 ^ k)) h_x5 (by rw [Nat.one_mul]; exact Nat.le_trans (two_len (M := 40) (by omega)) (by decide)) _ (val_limbs _) ((2 : Int) ^ k) (sg_two k)) ?_
            rintro e w7 ⟨v_x6, rfl, h_x6, hB7⟩
            have hS7 := Ext.below hS6 hB7
            refine ⟨_, rfl, hS7, ?_⟩
            have b_x6 : Sz ((2 : Int) ^ k) 40 := Sz.two (by omega)
            refine Pl.pA_end ?_
            refine Pl.G_any [6, 12] 8 (by kernel_rfl) (by kernel_rfl) (by kernel_rfl) (Pl.AllG_cons ?_ (Pl.AllG_cons ?_ Pl.AllG_nil))
            · have ha__7 := Zn.below ha (Ext.below hB1 (Ext.below hB2 (Ext.below hB3 (Ext.below hB4 (Ext.below hB5 (Ext.below hB6 hB7))))))
              refine Pl.pA_call rfl rfl rfl rfl rfl en15 ?_
              refine Calls.mono (rzdiv_D _ _ _ a ((2 : Int) ^ k) ha__7 h_x6 (Sz.le hl (by decide)) (Sz.le b_x6 (by decide)) (two_ne k) (shl a (-((k : Nat) : Int))) _ (shl_neg a k).symm rfl) ?_
              rintro e w8 ⟨⟨v_x8, v_x9, rfl, h_x8, h_x9⟩, hB8⟩
              have hS8 := Ext.below hS7 hB8
              refine ⟨_, rfl, hS8, ?_⟩
              have b_x8 : Sz (a / ((2 : Int) ^ k)) 100 := Sz.div hl
              have b_x9 : Sz (a % ((2 : Int) ^ k)) 40 := Sz.mod b_x6 (two_ne k)
              refine Pl.pA_end ?_
              refine Pl.G_plan [(true, 7, 2175), (true, 8, 2303), (true, 9, 2559), (true, 10, 3071), (false, 12, 4095)] 8191 3 Pl.post_panic (by kernel_rfl) (by kernel_rfl) (by kernel_rfl) ?_
              refine Pl.qA_move hS8 rfl rfl rfl rfl rfl ?_
              refine Pl.qA_extract hS8 rfl rfl rfl rfl rfl rfl ?_
              refine Pl.qA_extract hS8 rfl rfl rfl rfl rfl rfl ?_
              refine Pl.qA_extract hS8 rfl rfl rfl rfl rfl rfl ?_
              refine allocI rfl rfl rfl rfl (fun _ k => Ext.below hS8 k) ?_
              intro N10 w9 hB9 z_N10 i_10
              have hS9 := Ext.below hS8 hB9
              refine Pl.pA_end ?_
              have i_3__9 := Ib.ext i_3 (Ext.below hB5 (Ext.below hB6 (Ext.below hB7 (Ext.below hB8 hB9))))
              have h_x8__9 := Zn.below h_x8 hB9
              have h_x9__9 := Zn.below h_x9 hB9
              exact Pl.G_sub [(4, .pointer (some ⟨N2, 0, none⟩)), (5, .pointer (some ⟨N3, 0, none⟩)), (6, .pointer (some ⟨N10, 0, none⟩)), (25, v_x8), (26, v_x9), (27, (.int .i64 0))] (Pl.subl_cons rfl (Pl.subl_cons rfl (Pl.subl_cons rfl (Pl.subl_cons rfl (Pl.subl_cons rfl (Pl.subl_cons rfl Pl.subl_nil)))))) (hK _ _ ⟨N3, N10, v_x8, v_x9, rfl, (Ext.below hB3 (Ext.below hB4 (Ext.below hB5 (Ext.below hB6 (Ext.below hB7 (Ext.below hB8 hB9)))))), (Nat.le_trans (Below.size hB3) z_N3), i_3__9, (Nat.le_trans (Below.size (Ext.below hB3 (Ext.below hB4 (Ext.below hB5 (Ext.below hB6 (Ext.below hB7 hB8)))))) z_N10), i_10, h_x8__9, h_x9__9, (Nat.ne_of_lt (Nat.lt_of_lt_of_le (Ib.ext i_3 (Ext.below hB5 (Ext.below hB6 (Ext.below hB7 hB8)))).1 z_N10))⟩)
            · refine allocI rfl rfl rfl rfl (fun _ k => Ext.below hS7 k) ?_
              intro N7 w8 hB8 z_N7 i_7
              have hS8 := Ext.below hS7 hB8
              refine Pl.pA_end ?_
              refine Pl.G_plan [(false, 6, 6207), (true, 7, 6271), (true, 8, 6399), (true, 9, 6655), (true, 10, 7167)] 8191 3 Pl.post_panic (by kernel_rfl) (by kernel_rfl) (by kernel_rfl) ?_
              have ha__8 := Zn.below ha (Ext.below hB1 (Ext.below hB2 (Ext.below hB3 (Ext.below hB4 (Ext.below hB5 (Ext.below hB6 (Ext.below hB7 hB8)))))))
              have h_x6__8 := Zn.below h_x6 hB8
              refine Pl.pA_call rfl rfl rfl rfl rfl en15 ?_
              refine Calls.mono (rzdiv_D _ _ _ a ((2 : Int) ^ k) ha__8 h_x6__8 (Sz.le hl (by decide)) (Sz.le b_x6 (by decide)) (two_ne k) (shl a (-((k : Nat) : Int))) _ (shl_neg a k).symm rfl) ?_
              rintro e w9 ⟨⟨v_x10, v_x11, rfl, h_x10, h_x11⟩, hB9⟩
              have hS9 := Ext.below hS8 hB9
              refine ⟨_, rfl, hS9, ?_⟩
              have b_x10 : Sz (a / ((2 : Int) ^ k)) 100 := Sz.div hl
              have b_x11 : Sz (a % ((2 : Int) ^ k)) 40 := Sz.mod b_x6 (two_ne k)
              refine Pl.qA_move hS9 rfl rfl rfl rfl rfl ?_
              refine Pl.qA_extract hS9 rfl rfl rfl rfl rfl rfl ?_
              refine Pl.qA_extract hS9 rfl rfl rfl rfl rfl rfl ?_
              refine Pl.qA_extract hS9 rfl rfl rfl rfl rfl rfl ?_
              refine Pl.pA_end ?_
              have i_3__9 := Ib.ext i_3 (Ext.below hB5 (Ext.below hB6 (Ext.below hB7 (Ext.below hB8 hB9))))
              have i_7__9 := Ib.ext i_7 hB9
              exact Pl.G_sub [(4, .pointer (some ⟨N2, 0, none⟩)), (5, .pointer (some ⟨N3, 0, none⟩)), (6, .pointer (some ⟨N7, 0, none⟩)), (25, v_x10), (26, v_x11), (27, (.int .i64 0))] (Pl.subl_cons rfl (Pl.subl_cons rfl (Pl.subl_cons rfl (Pl.subl_cons rfl (Pl.subl_cons rfl (Pl.subl_cons rfl Pl.subl_nil)))))) (hK _ _ ⟨N3, N7, v_x10, v_x11, rfl, (Ext.below hB3 (Ext.below hB4 (Ext.below hB5 (Ext.below hB6 (Ext.below hB7 (Ext.below hB8 hB9)))))), (Nat.le_trans (Below.size hB3) z_N3), i_3__9, (Nat.le_trans (Below.size (Ext.below hB3 (Ext.below hB4 (Ext.below hB5 (Ext.below hB6 hB7))))) z_N7), i_7__9, h_x10, h_x11, (Nat.ne_of_lt (Nat.lt_of_lt_of_le (Ib.ext i_3 (Ext.below hB5 (Ext.below hB6 hB7))).1 z_N7))⟩)
          · refine allocI rfl rfl rfl rfl (fun _ k => Ext.below hS6 k) ?_
            intro N6 w7 hB7 z_N6 i_6
            have hS7 := Ext.below hS6 hB7
            refine Pl.pA_end ?_
            refine Pl.G_plan [(false, 5, 6175), (false, 6, 6207), (true, 7, 6271), (true, 8, 6399), (true, 9, 6655), (true, 10, 7167)] 8191 3 Pl.post_panic (by kernel_rfl) (by kernel_rfl) (by kernel_rfl) ?_
            have h_x5__7 := Un.below h_x5 hB7
            refine Pl.pA_call rfl rfl rfl rfl rfl en22 ?_
            refine Calls.mono (rzmake _ false _ (limbs (1 * 2 ^ k)) h_x5__7 (by rw [Nat.one_mul]; exact Nat.le_trans (two_len (M := 40) (by omega)) (by decide)) _ (val_limbs _) ((2 : Int) ^ k) (sg_two k)) ?_
            rintro e w8 ⟨v_x8, rfl, h_x8, hB8⟩
            have hS8 := Ext.below hS7 hB8
            refine ⟨_, rfl, hS8, ?_⟩
            have b_x8 : Sz ((2 : Int) ^ k) 40 := Sz.two (by omega)
            have ha__8 := Zn.below ha (Ext.below hB1 (Ext.below hB2 (Ext.below hB3 (Ext.below hB4 (Ext.below hB5 (Ext.below hB6 (Ext.below hB7 hB8)))))))
            refine Pl.pA_call rfl rfl rfl rfl rfl en15 ?_
            refine Calls.mono (rzdiv_D _ _ _ a ((2 : Int) ^ k) ha__8 h_x8 (Sz.le hl (by decide)) (Sz.le b_x8 (by decide)) (two_ne k) (shl a (-((k : Nat) : Int))) _ (shl_neg a k).symm rfl) ?_
            rintro e w9 ⟨⟨v_x10, v_x11, rfl, h_x10, h_x11⟩, hB9⟩
            have hS9 := Ext.below hS8 hB9
            refine ⟨_, rfl, hS9, ?_⟩
            have b_x10 : Sz (a / ((2 : Int) ^ k)) 100 := Sz.div hl
            have b_x11 : Sz (a % ((2 : Int) ^ k)) 40 := Sz.mod b_x8 (two_ne k)
            refine Pl.qA_move hS9 rfl rfl rfl rfl rfl ?_
            refine Pl.qA_extract hS9 rfl rfl rfl rfl rfl rfl ?_
            refine Pl.qA_extract hS9 rfl rfl rfl rfl rfl rfl ?_
            refine Pl.qA_extract hS9 rfl rfl rfl rfl rfl rfl ?_
            refine Pl.pA_end ?_
            have i_3__9 := Ib.ext i_3 (Ext.below hB5 (Ext.below hB6 (Ext.below hB7 (Ext.below hB8 hB9))))
            have i_6__9 := Ib.ext i_6 (Ext.below hB8 hB9)
            exact Pl.G_sub [(4, .pointer (some ⟨N2, 0, none⟩)), (5, .pointer (some ⟨N3, 0, none⟩)), (6, .pointer (some ⟨N6, 0, none⟩)), (25, v_x10), (26, v_x11), (27, (.int .i64 0))] (Pl.subl_cons rfl (Pl.subl_cons rfl (Pl.subl_cons rfl (Pl.subl_cons rfl (Pl.subl_cons rfl (Pl.subl_cons rfl Pl.subl_nil)))))) (hK _ _ ⟨N3, N6, v_x10, v_x11, rfl, (Ext.below hB3 (Ext.below hB4 (Ext.below hB5 (Ext.below hB6 (Ext.below hB7 (Ext.below hB8 hB9)))))), (Nat.le_trans (Below.size hB3) z_N3), i_3__9, (Nat.le_trans (Below.size (Ext.below hB3 (Ext.below hB4 (Ext.below hB5 hB6)))) z_N6), i_6__9, h_x10, h_x11, (Nat.ne_of_lt (Nat.lt_of_lt_of_le (Ib.ext i_3 (Ext.below hB5 hB6)).1 z_N6))⟩)
        · refine allocI rfl rfl rfl rfl (fun _ k => Ext.below hS5 k) ?_
          intro N5 w6 hB6 z_N5 i_5
          have hS6 := Ext.below hS5 hB6
          refine Pl.pA_end ?_
          refine Pl.G_plan [(false, 4, 6159), (false, 5, 6175), (false, 6, 6207), (true, 7, 6271), (true, 8, 6399), (true, 9, 6655), (true, 10, 7167)] 8191 3 Pl.post_panic (by kernel_rfl) (by kernel_rfl) (by kernel_rfl) ?_
          have us_4__6 := U.below us_4 hB6
          refine Pl.pA_call rfl rfl rfl rfl rfl en76 ?_
          refine Calls.mono (rshl_B _ _ 1 k (U.one us_4__6) (by omega) (Nat.le_trans (Sz.lit (z := 1) (K := 1) (by decide) (by decide)) (by decide)) _ rfl) ?_
          rintro e w7 ⟨v_x6, rfl, h_x6, hB7⟩
          have hS7 := Ext.below hS6 hB7
          refine ⟨_, rfl, hS7, ?_⟩
          refine Pl.pA_call rfl rfl rfl rfl rfl en22 ?_
          refine Calls.mono (rzmake _ false _ (limbs (1 * 2 ^ k)) h_x6 (by rw [Nat.one_mul]; exact Nat.le_trans (two_len (M := 40) (by omega)) (by decide)) _ (val_limbs _) ((2 : Int) ^ k) (sg_two k)) ?_
          rintro e w8 ⟨v_x8, rfl, h_x8, hB8⟩
          have hS8 := Ext.below hS7 hB8
          refine ⟨_, rfl, hS8, ?_⟩
          have b_x8 : Sz ((2 : Int) ^ k) 40 := Sz.two (by omega)
          have ha__8 := Zn.below ha (Ext.below hB1 (Ext.below hB2 (Ext.below hB3 (Ext.below hB4 (Ext.below hB5 (Ext.below hB6 (Ext.below hB7 hB8)))))))
          refine Pl.pA_call rfl rfl rfl rfl rfl en15 ?_
          refine Calls.mono (rzdiv_D _ _ _ a ((2 : Int) ^ k) ha__8 h_x8 (Sz.le hl (by decide)) (Sz.le b_x8 (by decide)) (two_ne k) (shl a (-((k : Nat) : Int))) _ (shl_neg a k).symm rfl) ?_
          rintro e w9 ⟨⟨v_x10, v_x11, rfl, h_x10, h_x11⟩, hB9⟩
          have hS9 := Ext.below hS8 hB9
          refine ⟨_, rfl, hS9, ?_⟩
          have b_x10 : Sz (a / ((2 : Int) ^ k)) 100 := Sz.div hl
          have b_x11 : Sz (a % ((2 : Int) ^ k)) 40 := Sz.mod b_x8 (two_ne k)
          refine Pl.qA_move hS9 rfl rfl rfl rfl rfl ?_
          refine Pl.qA_extract hS9 rfl rfl rfl rfl rfl rfl ?_
          refine Pl.qA_extract hS9 rfl rfl rfl rfl rfl rfl ?_
          refine Pl.qA_extract hS9 rfl rfl rfl rfl rfl rfl ?_
          refine Pl.pA_end ?_
          have i_3__9 := Ib.ext i_3 (Ext.below hB5 (Ext.below hB6 (Ext.below hB7 (Ext.below hB8 hB9))))
          have i_5__9 := Ib.ext i_5 (Ext.below hB7 (Ext.below hB8 hB9))
          exact Pl.G_sub [(4, .pointer (some ⟨N2, 0, none⟩)), (5, .pointer (some ⟨N3, 0, none⟩)), (6, .pointer (some ⟨N5, 0, none⟩)), (25, v_x10), (26, v_x11), (27, (.int .i64 0))] (Pl.subl_cons rfl (Pl.subl_cons rfl (Pl.subl_cons rfl (Pl.subl_cons rfl (Pl.subl_cons rfl (Pl.subl_cons rfl Pl.subl_nil)))))) (hK _ _ ⟨N3, N5, v_x10, v_x11, rfl, (Ext.below hB3 (Ext.below hB4 (Ext.below hB5 (Ext.below hB6 (Ext.below hB7 (Ext.below hB8 hB9)))))), (Nat.le_trans (Below.size hB3) z_N3), i_3__9, (Nat.le_trans (Below.size (Ext.below hB3 (Ext.below hB4 hB5))) z_N5), i_5__9, h_x10, h_x11, (Nat.ne_of_lt (Nat.lt_of_lt_of_le (Ib.ext i_3 hB5).1 z_N5))⟩)
      · refine allocI rfl rfl rfl rfl (fun _ k => Ext.below hS4 k) ?_
        intro N4 w5 hB5 z_N4 i_4
        have hS5 := Ext.below hS4 hB5
        refine Pl.pA_end ?_
        refine Pl.G_plan [(false, 1, 6157), (false, 4, 6159), (false, 5, 6175), (false, 6, 6207), (true, 7, 6271), (true, 8, 6399), (true, 9, 6655), (true, 10, 7167)] 8191 3 Pl.post_panic (by kernel_rfl) (by kernel_rfl) (by kernel_rfl) ?_
        refine buildS1 (n := 1) (by decide) rfl rfl rfl rfl rfl (fun _ k => Ext.below hS5 k) ?_
        intro A5 w6 hB6 us_5
        have hS6 := Ext.below hS5 hB6
        refine Pl.pA_call rfl rfl rfl rfl rfl en76 ?_
        refine Calls.mono (rshl_B _ _ 1 k (U.one us_5) (by omega) (Nat.le_trans (Sz.lit (z := 1) (K := 1) (by decide) (by decide)) (by decide)) _ rfl) ?_
        rintro e w7 ⟨v_x6, rfl, h_x6, hB7⟩
        have hS7 := Ext.below hS6 hB7
        refine ⟨_, rfl, hS7, ?_⟩
        refine Pl.pA_call rfl rfl rfl rfl rfl en22 ?_
        refine Calls.mono (rzmake _ false _ (limbs (1 * 2 ^ k)) h_x6 (by rw [Nat.one_mul]; exact Nat.le_trans (two_len (M := 40) (by omega)) (by decide)) _ (val_limbs _) ((2 : Int) ^ k) (sg_two k)) ?_
        rintro e w8 ⟨v_x7, rfl, h_x7, hB8⟩
        have hS8 := Ext.below hS7 hB8
        refine ⟨_, rfl, hS8, ?_⟩
        have b_x7 : Sz ((2 : Int) ^ k) 40 := Sz.two (by omega)
        have ha__8 := Zn.below ha (Ext.below hB1 (Ext.below hB2 (Ext.below hB3 (Ext.below hB4 (Ext.below hB5 (Ext.below hB6 (Ext.below hB7 hB8)))))))
        refine Pl.pA_call rfl rfl rfl rfl rfl en15 ?_
        refine Calls.mono (rzdiv_D _ _ _ a ((2 : Int) ^ k) ha__8 h_x7 (Sz.le hl (by decide)) (Sz.le b_x7 (by decide)) (two_ne k) (shl a (-((k : Nat) : Int))) _ (shl_neg a k).symm rfl) ?_
        rintro e w9 ⟨⟨v_x9, v_x10, rfl, h_x9, h_x10⟩, hB9⟩
        have hS9 := Ext.below hS8 hB9
        refine ⟨_, rfl, hS9, ?_⟩
        have b_x9 : Sz (a / ((2 : Int) ^ k)) 100 := Sz.div hl
        have b_x10 : Sz (a % ((2 : Int) ^ k)) 40 := Sz.mod b_x7 (two_ne k)
        refine Pl.qA_move hS9 rfl rfl rfl rfl rfl ?_
        refine Pl.qA_extract hS9 rfl rfl rfl rfl rfl rfl ?_
        refine Pl.qA_extract hS9 rfl rfl rfl rfl rfl rfl ?_
        refine Pl.qA_extract hS9 rfl rfl rfl rfl rfl rfl ?_
        refine Pl.pA_end ?_
        have i_3__9 := Ib.ext i_3 (Ext.below hB5 (Ext.below hB6 (Ext.below hB7 (Ext.below hB8 hB9))))
        have i_4__9 := Ib.ext i_4 (Ext.below hB6 (Ext.below hB7 (Ext.below hB8 hB9)))
        exact Pl.G_sub [(4, .pointer (some ⟨N2, 0, none⟩)), (5, .pointer (some ⟨N3, 0, none⟩)), (6, .pointer (some ⟨N4, 0, none⟩)), (25, v_x9), (26, v_x10), (27, (.int .i64 0))] (Pl.subl_cons rfl (Pl.subl_cons rfl (Pl.subl_cons rfl (Pl.subl_cons rfl (Pl.subl_cons rfl (Pl.subl_cons rfl Pl.subl_nil)))))) (hK _ _ ⟨N3, N4, v_x9, v_x10, rfl, (Ext.below hB3 (Ext.below hB4 (Ext.below hB5 (Ext.below hB6 (Ext.below hB7 (Ext.below hB8 hB9)))))), (Nat.le_trans (Below.size hB3) z_N3), i_3__9, (Nat.le_trans (Below.size (Ext.below hB3 hB4)) z_N4), i_4__9, h_x9, h_x10, (Nat.ne_of_lt (Nat.lt_of_lt_of_le (i_3).1 z_N4))⟩)
    · refine allocI rfl rfl rfl rfl (fun _ k => Ext.below hS3 k) ?_
      intro N3 w4 hB4 z_N3 i_3
      have hS4 := Ext.below hS3 hB4
      refine Pl.pA_end ?_
      refine Pl.G_any [1, 11] 11 (by kernel_rfl) (by kernel_rfl) (by kernel_rfl) (Pl.AllG_cons ?_ (Pl.AllG_cons ?_ Pl.AllG_nil))
      · refine buildS1 (n := 1) (by decide) rfl rfl rfl rfl rfl (fun _ k => Ext.below hS4 k) ?_
        intro A4 w5 hB5 us_4
        have hS5 := Ext.below hS4 hB5
        refine Pl.pA_end ?_
        refine Pl.G_any [4, 11] 10 (by kernel_rfl) (by kernel_rfl) (by kernel_rfl) (Pl.AllG_cons ?_ (Pl.AllG_cons ?_ Pl.AllG_nil))
        · refine Pl.pA_call rfl rfl rfl rfl rfl en76 ?_
          refine Calls.mono (rshl_B _ _ 1 k (U.one us_4) (by omega) (Nat.le_trans (Sz.lit (z := 1) (K := 1) (by decide) (by decide)) (by decide)) _ rfl) ?_
          rintro e w6 ⟨v_x5, rfl, h_x5, hB6⟩
          have hS6 := Ext.below hS5 hB6
          refine ⟨_, rfl, hS6, ?_⟩
          refine Pl.pA_end ?_
          refine Pl.G_any [5, 11] 9 (by kernel_rfl) (by kernel_rfl) (by kernel_rfl) (Pl.AllG_cons ?_ (Pl.AllG_cons ?_ Pl.AllG_nil))
          · refine Pl.pA_call rfl rfl rfl rfl rfl en22 ?_
            refine Calls.mono (rzmake _ false _ (limbs (1 * 2 ^ k)) h_x5 (by rw [Nat.one_mul]; exact Nat.le_trans (two_len (M := 40) (by omega)) (by decide)) _ (val_limbs _) ((2 : Int) ^ k) (sg_two k)) ?_
            rintro e w7 ⟨v_x6, rfl, h_x6, hB7⟩
            have hS7 := Ext.below hS6 hB7
            refine ⟨_, rfl, hS7, ?_⟩
            have b_x6 : Sz ((2 : Int) ^ k) 40 := Sz.two (by omega)
            refine Pl.pA_end ?_
            refine Pl.G_any [6, 11] 8 (by kernel_rfl) (by kernel_rfl) (by kernel_rfl) (Pl.AllG_cons ?_ (Pl.AllG_cons ?_ Pl.AllG_nil))
            · have ha__7 := Zn.below ha (Ext.below hB1 (Ext.below hB2 (Ext.below hB3 (Ext.below hB4 (Ext.below hB5 (Ext.below hB6 hB7))))))
              refine Pl.pA_call rfl rfl rfl rfl rfl en15 ?_
              refine Calls.mono (rzdiv_D _ _ _ a ((2 : Int) ^ k) ha__7 h_x6 (Sz.le hl (by decide)) (Sz.le b_x6 (by decide)) (two_ne k) (shl a (-((k : Nat) : Int))) _ (shl_neg a k).symm rfl) ?_
              rintro e w8 ⟨⟨v_x8, v_x9, rfl, h_x8, h_x9⟩, hB8⟩
              have hS8 := Ext.below hS7 hB8
              refine ⟨_, rfl, hS8, ?_⟩
              have b_x8 : Sz (a / ((2 : Int) ^ k)) 100 := Sz.div hl
              have b_x9 : Sz (a % ((2 : Int) ^ k)) 40 := Sz.mod b_x6 (two_ne k)
              refine Pl.pA_end ?_
              refine Pl.G_plan [(true, 7, 4223), (true, 8, 4351), (true, 9, 4607), (true, 10, 5119), (false, 11, 6143)] 8191 3 Pl.post_panic (by kernel_rfl) (by kernel_rfl) (by kernel_rfl) ?_
              refine Pl.qA_move hS8 rfl rfl rfl rfl rfl ?_
              refine Pl.qA_extract hS8 rfl rfl rfl rfl rfl rfl ?_
              refine Pl.qA_extract hS8 rfl rfl rfl rfl rfl rfl ?_
              refine Pl.qA_extract hS8 rfl rfl rfl rfl rfl rfl ?_
              refine allocI rfl rfl rfl rfl (fun _ k => Ext.below hS8 k) ?_
              intro N10 w9 hB9 z_N10 i_10
              have hS9 := Ext.below hS8 hB9
              refine Pl.pA_end ?_
              have i_3__9 := Ib.ext i_3 (Ext.below hB5 (Ext.below hB6 (Ext.below hB7 (Ext.below hB8 hB9))))
              have h_x8__9 := Zn.below h_x8 hB9
              have h_x9__9 := Zn.below h_x9 hB9
              exact Pl.G_sub [(4, .pointer (some ⟨N2, 0, none⟩)), (5, .pointer (some ⟨N10, 0, none⟩)), (6, .pointer (some ⟨N3, 0, none⟩)), (25, v_x8), (26, v_x9), (27, (.int .i64 0))] (Pl.subl_cons rfl (Pl.subl_cons rfl (Pl.subl_cons rfl (Pl.subl_cons rfl (Pl.subl_cons rfl (Pl.subl_cons rfl Pl.subl_nil)))))) (hK _ _ ⟨N10, N3, v_x8, v_x9, rfl, (Ext.below hB3 (Ext.below hB4 (Ext.below hB5 (Ext.below hB6 (Ext.below hB7 (Ext.below hB8 hB9)))))), (Nat.le_trans (Below.size (Ext.below hB3 (Ext.below hB4 (Ext.below hB5 (Ext.below hB6 (Ext.below hB7 hB8)))))) z_N10), i_10, (Nat.le_trans (Below.size hB3) z_N3), i_3__9, h_x8__9, h_x9__9, (Nat.ne_of_gt (Nat.lt_of_lt_of_le (Ib.ext i_3 (Ext.below hB5 (Ext.below hB6 (Ext.below hB7 hB8)))).1 z_N10))⟩)
            · refine allocI rfl rfl rfl rfl (fun _ k => Ext.below hS7 k) ?_
              intro N7 w8 hB8 z_N7 i_7
              have hS8 := Ext.below hS7 hB8
              refine Pl.pA_end ?_
              refine Pl.G_plan [(false, 6, 6207), (true, 7, 6271), (true, 8, 6399), (true, 9, 6655), (true, 10, 7167)] 8191 3 Pl.post_panic (by kernel_rfl) (by kernel_rfl) (by kernel_rfl) ?_
              have ha__8 := Zn.below ha (Ext.below hB1 (Ext.below hB2 (Ext.below hB3 (Ext.below hB4 (Ext.below hB5 (Ext.below hB6 (Ext.below hB7 hB8)))))))
              have h_x6__8 := Zn.below h_x6 hB8
              refine Pl.pA_call rfl rfl rfl rfl rfl en15 ?_
              refine Calls.mono (rzdiv_D _ _ _ a ((2 : Int) ^ k) ha__8 h_x6__8 (Sz.le hl (by decide)) (Sz.le b_x6 (by decide)) (two_ne k) (shl a (-((k : Nat) : Int))) _ (shl_neg a k).symm rfl) ?_
              rintro e w9 ⟨⟨v_x10, v_x11, rfl, h_x10, h_x11⟩, hB9⟩
              have hS9 := Ext.below hS8 hB9
              refine ⟨_, rfl, hS9, ?_⟩
              have b_x10 : Sz (a / ((2 : Int) ^ k)) 100 := Sz.div hl
              have b_x11 : Sz (a % ((2 : Int) ^ k)) 40 := Sz.mod b_x6 (two_ne k)
              refine Pl.qA_move hS9 rfl rfl rfl rfl rfl ?_
              refine Pl.qA_extract hS9 rfl rfl rfl rfl rfl rfl ?_
              refine Pl.qA_extract hS9 rfl rfl rfl rfl rfl rfl ?_
              refine Pl.qA_extract hS9 rfl rfl rfl rfl rfl rfl ?_
              refine Pl.pA_end ?_
              have i_7__9 := Ib.ext i_7 hB9
              have i_3__9 := Ib.ext i_3 (Ext.below hB5 (Ext.below hB6 (Ext.below hB7 (Ext.below hB8 hB9))))
              exact Pl.G_sub [(4, .pointer (some ⟨N2, 0, none⟩)), (5, .pointer (some ⟨N7, 0, none⟩)), (6, .pointer (some ⟨N3, 0, none⟩)), (25, v_x10), (26, v_x11), (27, (.int .i64 0))] (Pl.subl_cons rfl (Pl.subl_cons rfl (Pl.subl_cons rfl (Pl.subl_cons rfl (Pl.subl_cons rfl (Pl.subl_cons rfl Pl.subl_nil)))))) (hK _ _ ⟨N7, N3, v_x10, v_x11, rfl, (Ext.below hB3 (Ext.below hB4 (Ext.below hB5 (Ext.below hB6 (Ext.below hB7 (Ext.below hB8 hB9)))))), (Nat.le_trans (Below.size (Ext.below hB3 (Ext.below hB4 (Ext.below hB5 (Ext.below hB6 hB7))))) z_N7), i_7__9, (Nat.le_trans (Below.size hB3) z_N3), i_3__9, h_x10, h_x11, (Nat.ne_of_gt (Nat.lt_of_lt_of_le (Ib.ext i_3 (Ext.below hB5 (Ext.below hB6 hB7))).1 z_N7))⟩)
          · refine allocI rfl rfl rfl rfl (fun _ k => Ext.below hS6 k) ?_
            intro N6 w7 hB7 z_N6 i_6
            have hS7 := Ext.below hS6 hB7
            refine Pl.pA_end ?_
            refine Pl.G_plan [(false, 5, 6175), (false, 6, 6207), (true, 7, 6271), (true, 8, 6399), (true, 9, 6655), (true, 10, 7167)] 8191 3 Pl.post_panic (by kernel_rfl) (by kernel_rfl) (by kernel_rfl) ?_
            have h_x5__7 := Un.below h_x5 hB7
            refine Pl.pA_call rfl rfl rfl rfl rfl en22 ?_
            refine Calls.mono (rzmake _ false _ (limbs (1 * 2 ^ k)) h_x5__7 (by rw [Nat.one_mul]; exact Nat.le_trans (two_len (M := 40) (by omega)) (by decide)) _ (val_limbs _) ((2 : Int) ^ k) (sg_two k)) ?_
            rintro e w8 ⟨v_x8, rfl, h_x8, hB8⟩
            have hS8 := Ext.below hS7 hB8
            refine ⟨_, rfl, hS8, ?_⟩
            have b_x8 : Sz ((2 : Int) ^ k) 40 := Sz.two (by omega)
            have ha__8 := Zn.below ha (Ext.below hB1 (Ext.below hB2 (Ext.below hB3 (Ext.below hB4 (Ext.below hB5 (Ext.below hB6 (Ext.below hB7 hB8)))))))
            refine Pl.pA_call rfl rfl rfl rfl rfl en15 ?_
            refine Calls.mono (rzdiv_D _ _ _ a ((2 : Int) ^ k) ha__8 h_x8 (Sz.le hl (by decide)) (Sz.le b_x8 (by decide)) (two_ne k) (shl a (-((k : Nat) : Int))) _ (shl_neg a k).symm rfl) ?_
            rintro e w9 ⟨⟨v_x10, v_x11, rfl, h_x10, h_x11⟩, hB9⟩
            have hS9 := Ext.below hS8 hB9
            refine ⟨_, rfl, hS9, ?_⟩
            have b_x10 : Sz (a / ((2 : Int) ^ k)) 100 := Sz.div hl
            have b_x11 : Sz (a % ((2 : Int) ^ k)) 40 := Sz.mod b_x8 (two_ne k)
            refine Pl.qA_move hS9 rfl rfl rfl rfl rfl ?_
            refine Pl.qA_extract hS9 rfl rfl rfl rfl rfl rfl ?_
            refine Pl.qA_extract hS9 rfl rfl rfl rfl rfl rfl ?_
            refine Pl.qA_extract hS9 rfl rfl rfl rfl rfl rfl ?_
            refine Pl.pA_end ?_
            have i_6__9 := Ib.ext i_6 (Ext.below hB8 hB9)
            have i_3__9 := Ib.ext i_3 (Ext.below hB5 (Ext.below hB6 (Ext.below hB7 (Ext.below hB8 hB9))))
            exact Pl.G_sub [(4, .pointer (some ⟨N2, 0, none⟩)), (5, .pointer (some ⟨N6, 0, none⟩)), (6, .pointer (some ⟨N3, 0, none⟩)), (25, v_x10), (26, v_x11), (27, (.int .i64 0))] (Pl.subl_cons rfl (Pl.subl_cons rfl (Pl.subl_cons rfl (Pl.subl_cons rfl (Pl.subl_cons rfl (Pl.subl_cons rfl Pl.subl_nil)))))) (hK _ _ ⟨N6, N3, v_x10, v_x11, rfl, (Ext.below hB3 (Ext.below hB4 (Ext.below hB5 (Ext.below hB6 (Ext.below hB7 (Ext.below hB8 hB9)))))), (Nat.le_trans (Below.size (Ext.below hB3 (Ext.below hB4 (Ext.below hB5 hB6)))) z_N6), i_6__9, (Nat.le_trans (Below.size hB3) z_N3), i_3__9, h_x10, h_x11, (Nat.ne_of_gt (Nat.lt_of_lt_of_le (Ib.ext i_3 (Ext.below hB5 hB6)).1 z_N6))⟩)
        · refine allocI rfl rfl rfl rfl (fun _ k => Ext.below hS5 k) ?_
          intro N5 w6 hB6 z_N5 i_5
          have hS6 := Ext.below hS5 hB6
          refine Pl.pA_end ?_
          refine Pl.G_plan [(false, 4, 6159), (false, 5, 6175), (false, 6, 6207), (true, 7, 6271), (true, 8, 6399), (true, 9, 6655), (true, 10, 7167)] 8191 3 Pl.post_panic (by kernel_rfl) (by kernel_rfl) (by kernel_rfl) ?_
          have us_4__6 := U.below us_4 hB6
          refine Pl.pA_call rfl rfl rfl rfl rfl en76 ?_
          refine Calls.mono (rshl_B _ _ 1 k (U.one us_4__6) (by omega) (Nat.le_trans (Sz.lit (z := 1) (K := 1) (by decide) (by decide)) (by decide)) _ rfl) ?_
          rintro e w7 ⟨v_x6, rfl, h_x6, hB7⟩
          have hS7 := Ext.below hS6 hB7
          refine ⟨_, rfl, hS7, ?_⟩
          refine Pl.pA_call rfl rfl rfl rfl rfl en22 ?_
          refine Calls.mono (rzmake _ false _ (limbs (1 * 2 ^ k)) h_x6 (by rw [Nat.one_mul]; exact Nat.le_trans (two_len (M := 40) (by omega)) (by decide)) _ (val_limbs _) ((2 : Int) ^ k) (sg_two k)) ?_
          rintro e w8 ⟨v_x8, rfl, h_x8, hB8⟩
          have hS8 := Ext.below hS7 hB8
          refine ⟨_, rfl, hS8, ?_⟩
          have b_x8 : Sz ((2 : Int) ^ k) 40 := Sz.two (by omega)
          have ha__8 := Zn.below ha (Ext.below hB1 (Ext.below hB2 (Ext.below hB3 (Ext.below hB4 (Ext.below hB5 (Ext.below hB6 (Ext.below hB7 hB8)))))))
          refine Pl.pA_call rfl rfl rfl rfl rfl en15 ?_
          refine Calls.mono (rzdiv_D _ _ _ a ((2 : Int) ^ k) ha__8 h_x8 (Sz.le hl (by decide)) (Sz.le b_x8 (by decide)) (two_ne k) (shl a (-((k : Nat) : Int))) _ (shl_neg a k).symm rfl) ?_
          rintro e w9 ⟨⟨v_x10, v_x11, rfl, h_x10, h_x11⟩, hB9⟩
          have hS9 := Ext.below hS8 hB9
          refine ⟨_, rfl, hS9, ?_⟩
          have b_x10 : Sz (a / ((2 : Int) ^ k)) 100 := Sz.div hl
          have b_x11 : Sz (a % ((2 : Int) ^ k)) 40 := Sz.mod b_x8 (two_ne k)
          refine Pl.qA_move hS9 rfl rfl rfl rfl rfl ?_
          refine Pl.qA_extract hS9 rfl rfl rfl rfl rfl rfl ?_
          refine Pl.qA_extract hS9 rfl rfl rfl rfl rfl rfl ?_
          refine Pl.qA_extract hS9 rfl rfl rfl rfl rfl rfl ?_
          refine Pl.pA_end ?_
          have i_5__9 := Ib.ext i_5 (Ext.below hB7 (Ext.below hB8 hB9))
          have i_3__9 := Ib.ext i_3 (Ext.below hB5 (Ext.below hB6 (Ext.below hB7 (Ext.below hB8 hB9))))
          exact Pl.G_sub [(4, .pointer (some ⟨N2, 0, none⟩)), (5, .pointer (some ⟨N5, 0, none⟩)), (6, .pointer (some ⟨N3, 0, none⟩)), (25, v_x10), (26, v_x11), (27, (.int .i64 0))] (Pl.subl_cons rfl (Pl.subl_cons rfl (Pl.subl_cons rfl (Pl.subl_cons rfl (Pl.subl_cons rfl (Pl.subl_cons rfl Pl.subl_nil)))))) (hK _ _ ⟨N5, N3, v_x10, v_x11, rfl, (Ext.below hB3 (Ext.below hB4 (Ext.below hB5 (Ext.below hB6 (Ext.below hB7 (Ext.below hB8 hB9)))))), (Nat.le_trans (Below.size (Ext.below hB3 (Ext.below hB4 hB5))) z_N5), i_5__9, (Nat.le_trans (Below.size hB3) z_N3), i_3__9, h_x10, h_x11, (Nat.ne_of_gt (Nat.lt_of_lt_of_le (Ib.ext i_3 hB5).1 z_N5))⟩)
      · refine allocI rfl rfl rfl rfl (fun _ k => Ext.below hS4 k) ?_
        intro N4 w5 hB5 z_N4 i_4
        have hS5 := Ext.below hS4 hB5
        refine Pl.pA_end ?_
        refine Pl.G_plan [(false, 1, 6157), (false, 4, 6159), (false, 5, 6175), (false, 6, 6207), (true, 7, 6271), (true, 8, 6399), (true, 9, 6655), (true, 10, 7167)] 8191 3 Pl.post_panic (by kernel_rfl) (by kernel_rfl) (by kernel_rfl) ?_
        refine buildS1 (n := 1) (by decide) rfl rfl rfl rfl rfl (fun _ k => Ext.below hS5 k) ?_
        intro A5 w6 hB6 us_5
        have hS6 := Ext.below hS5 hB6
        refine Pl.pA_call rfl rfl rfl rfl rfl en76 ?_
        refine Calls.mono (rshl_B _ _ 1 k (U.one us_5) (by omega) (Nat.le_trans (Sz.lit (z := 1) (K := 1) (by decide) (by decide)) (by decide)) _ rfl) ?_
        rintro e w7 ⟨v_x6, rfl, h_x6, hB7⟩
        have hS7 := Ext.below hS6 hB7
        refine ⟨_, rfl, hS7, ?_⟩
        refine Pl.pA_call rfl rfl rfl rfl rfl en22 ?_
        refine Calls.mono (rzmake _ false _ (limbs (1 * 2 ^ k)) h_x6 (by rw [Nat.one_mul]; exact Nat.le_trans (two_len (M := 40) (by omega)) (by decide)) _ (val_limbs _) ((2 : Int) ^ k) (sg_two k)) ?_
        rintro e w8 ⟨v_x7, rfl, h_x7, hB8⟩
        have hS8 := Ext.below hS7 hB8
        refine ⟨_, rfl, hS8, ?_⟩
        have b_x7 : Sz ((2 : Int) ^ k) 40 := Sz.two (by omega)
        have ha__8 := Zn.below ha (Ext.below hB1 (Ext.below hB2 (Ext.below hB3 (Ext.below hB4 (Ext.below hB5 (Ext.below hB6 (Ext.below hB7 hB8)))))))
        refine Pl.pA_call rfl rfl rfl rfl rfl en15 ?_
        refine Calls.mono (rzdiv_D _ _ _ a ((2 : Int) ^ k) ha__8 h_x7 (Sz.le hl (by decide)) (Sz.le b_x7 (by decide)) (two_ne k) (shl a (-((k : Nat) : Int))) _ (shl_neg a k).symm rfl) ?_
        rintro e w9 ⟨⟨v_x9, v_x10, rfl, h_x9, h_x10⟩, hB9⟩
        have hS9 := Ext.below hS8 hB9
        refine ⟨_, rfl, hS9, ?_⟩
        have b_x9 : Sz (a / ((2 : Int) ^ k)) 100 := Sz.div hl
        have b_x10 : Sz (a % ((2 : Int) ^ k)) 40 := Sz.mod b_x7 (two_ne k)
        refine Pl.qA_move hS9 rfl rfl rfl rfl rfl ?_
        refine Pl.qA_extract hS9 rfl rfl rfl rfl rfl rfl ?_
        refine Pl.qA_extract hS9 rfl rfl rfl rfl rfl rfl ?_
        refine Pl.qA_extract hS9 rfl rfl rfl rfl rfl rfl ?_
        refine Pl.pA_end ?_
        have i_4__9 := Ib.ext i_4 (Ext.below hB6 (Ext.below hB7 (Ext.below hB8 hB9)))
        have i_3__9 := Ib.ext i_3 (Ext.below hB5 (Ext.below hB6 (Ext.below hB7 (Ext.below hB8 hB9))))
        exact Pl.G_sub [(4, .pointer (some ⟨N2, 0, none⟩)), (5, .pointer (some ⟨N4, 0, none⟩)), (6, .pointer (some ⟨N3, 0, none⟩)), (25, v_x9), (26, v_x10), (27, (.int .i64 0))] (Pl.subl_cons rfl (Pl.subl_cons rfl (Pl.subl_cons rfl (Pl.subl_cons rfl (Pl.subl_cons rfl (Pl.subl_cons rfl Pl.subl_nil)))))) (hK _ _ ⟨N4, N3, v_x9, v_x10, rfl, (Ext.below hB3 (Ext.below hB4 (Ext.below hB5 (Ext.below hB6 (Ext.below hB7 (Ext.below hB8 hB9)))))), (Nat.le_trans (Below.size (Ext.below hB3 hB4)) z_N4), i_4__9, (Nat.le_trans (Below.size hB3) z_N3), i_3__9, h_x9, h_x10, (Nat.ne_of_gt (Nat.lt_of_lt_of_le (i_3).1 z_N4))⟩)
  rintro _ w103 ⟨N5_103, N6_103, v_y25_103, v_y26_103, rfl, hB103, z_N5_103, i_N5_103, z_N6_103, i_N6_103, h_y25_103, h_y26_103, ne_N5_103_N6_103⟩
  have hS103 := hB103
  have b_x5 : Sz ((2 : Int) ^ k) 40 := Sz.two (by omega)
  have b_x7 : Sz (a / ((2 : Int) ^ k)) 100 := Sz.div hl
  have b_x8 : Sz (a % ((2 : Int) ^ k)) 40 := Sz.mod b_x5 (two_ne k)
  refine Pl.G_plan [(false, 13, 8191), (false, 14, 16383), (true, 15, 32767)] 65535 0 Pl.post_panic (by kernel_rfl) (by kernel_rfl) (by kernel_rfl) ?_
  obtain ⟨p_y25_103, A_y25_103, L_y25_103, c_y25_103, rfl⟩ := Zn.sh h_y25_103
  refine storeI rfl rfl rfl rfl rfl rfl i_N5_103 (fun _ T => T _ hS103 (Nat.le_trans (Below.size (Ext.refl w2)) z_N5_103)) ?_
  intro w104 T1_104 T2_104 T3_104 I_104
  have hB104 := T1_104 _ hB103 (Nat.le_trans (Below.size (Ext.refl w2)) z_N5_103)
  have hS104 := T1_104 _ hS103 (Nat.le_trans (Below.size (Ext.refl w2)) z_N5_103)
  have i_N6_103__104 := T3_104 _ _ _ (Ne.symm ne_N5_103_N6_103) i_N6_103
  have h_y25_103__104 := T2_104 _ _ h_y25_103
  have h_y26_103__104 := T2_104 _ _ h_y26_103
  obtain ⟨p_y26_103, A_y26_103, L_y26_103, c_y26_103, rfl⟩ := Zn.sh h_y26_103__104
  refine storeI rfl rfl rfl rfl rfl rfl i_N6_103__104 (fun _ T => T _ hS104 (Nat.le_trans (Below.size (Ext.refl w2)) z_N6_103)) ?_
  intro w105 T1_105 T2_105 T3_105 I_105
  have hB105 := T1_105 _ hB104 (Nat.le_trans (Below.size (Ext.refl w2)) z_N6_103)
  have hS105 := T1_105 _ hS104 (Nat.le_trans (Below.size (Ext.refl w2)) z_N6_103)
  have h_y25_103__105 := T2_105 _ _ h_y25_103__104
  have I_104__105 := T3_105 _ _ _ ne_N5_103_N6_103 I_104
  have h_y26_103__105 := T2_105 _ _ h_y26_103__104
  refine Pl.qA_assign hS105 rfl rfl rfl rfl rfl ?_
  refine Pl.pA_end ?_
  refine Pl.G_V (by kernel_rfl) ?_
  refine Pl.V_seq ?_
  refine Pl.V_region (by kernel_rfl) ?_
  refine Pl.qA_loadw trivial rfl rfl rfl rfl rfl (Ib.load I_104__105) ?_
  have i_2__105 := Ib.ext i_2 hB105
  refine storeI rfl rfl rfl rfl rfl rfl i_2__105 (fun _ _ => trivial) ?_
  intro w106 T1_106 T2_106 T3_106 I_106
  have hB106 := T1_106 _ (Ext.below hB2 hB105) (Nat.le_trans (Below.size (Ext.refl w1)) z_N2)
  have h_y25_103__106 := T2_106 _ _ h_y25_103__105
  have I_104__106 := T3_106 _ _ _ (Nat.ne_of_gt (Nat.lt_of_lt_of_le (Ib.ext i_2 (Ext.refl w2)).1 z_N5_103)) I_104__105
  have h_y26_103__106 := T2_106 _ _ h_y26_103__105
  have I_105__106 := T3_106 _ _ _ (Nat.ne_of_gt (Nat.lt_of_lt_of_le (Ib.ext i_2 (Ext.refl w2)).1 z_N6_103)) I_105
  refine Pl.pA_end ?_
  refine post_cellI rfl rfl I_106 ?_
  exact ⟨_, rfl, h_y25_103__106, (Ext.below hB1 hB106)⟩
theorem rzshift (w : World) (va : Value) (a s : Int) (ha : Zn w va a) (hl : Sz a 100) (h1 : -900 ≤ s) (h2 : s ≤ 900) :
    Calls Tryz.prog 41 #[va, .int .i64 s] w fun e w' => ∃ u, e = .returned u ∧ Zn w' u (shl a s) ∧ Ext w w' := by
  by_cases h0 : 0 ≤ s
  · exact rzshiftP w va a s ha hl h0 h1 h2
  · exact rzshiftN w va a s ha hl h0 h1 h2
end Go.Proofs.YtfkcdmbiihkiiaaGreatDoor
/- Proved: what the statement IntegerMore does: powers, shifts, texts, and what any text is read as, are the document's: it tells true. No condition. -/
namespace Go.Proofs.YtfkcdmbiihkiiaaGreatDoor
open Go.RowKit
set_option linter.unusedVariables false
set_option linter.unusedSimpArgs false
set_option maxHeartbeats 400000

namespace More6
theorem en12 (u : Array Value) (X : World) : (callFunc 12 u).run Tryz.prog X = .ok (.enter 12 u) X := Pl.enters Tryz.func12 (by kernel_rfl) rfl u X
theorem en20 (u : Array Value) (X : World) : (callFunc 20 u).run Tryz.prog X = .ok (.enter 20 u) X := Pl.enters Tryz.func20 (by kernel_rfl) rfl u X
theorem en35 (u : Array Value) (X : World) : (callFunc 35 u).run Tryz.prog X = .ok (.enter 35 u) X := Pl.enters Tryz.func35 (by kernel_rfl) rfl u X
theorem en36 (u : Array Value) (X : World) : (callFunc 36 u).run Tryz.prog X = .ok (.enter 36 u) X := Pl.enters Tryz.func36 (by kernel_rfl) rfl u X
theorem en37 (u : Array Value) (X : World) : (callFunc 37 u).run Tryz.prog X = .ok (.enter 37 u) X := Pl.enters Tryz.func37 (by kernel_rfl) rfl u X
theorem en38 (u : Array Value) (X : World) : (callFunc 38 u).run Tryz.prog X = .ok (.enter 38 u) X := Pl.enters Tryz.func38 (by kernel_rfl) rfl u X
theorem en39 (u : Array Value) (X : World) : (callFunc 39 u).run Tryz.prog X = .ok (.enter 39 u) X := Pl.enters Tryz.func39 (by kernel_rfl) rfl u X
theorem en40 (u : Array Value) (X : World) : (callFunc 40 u).run Tryz.prog X = .ok (.enter 40 u) X := Pl.enters Tryz.func40 (by kernel_rfl) rfl u X
theorem en41 (u : Array Value) (X : World) : (callFunc 41 u).run Tryz.prog X = .ok (.enter 41 u) X := Pl.enters Tryz.func41 (by kernel_rfl) rfl u X
theorem en42 (u : Array Value) (X : World) : (callFunc 42 u).run Tryz.prog X = .ok (.enter 42 u) X := Pl.enters Tryz.func42 (by kernel_rfl) rfl u X
theorem en43 (u : Array Value) (X : World) : (callFunc 43 u).run Tryz.prog X = .ok (.enter 43 u) X := Pl.enters Tryz.func43 (by kernel_rfl) rfl u X
theorem en44 (u : Array Value) (X : World) : (callFunc 44 u).run Tryz.prog X = .ok (.enter 44 u) X := Pl.enters Tryz.func44 (by kernel_rfl) rfl u X
theorem en45 (u : Array Value) (X : World) : (callFunc 45 u).run Tryz.prog X = .ok (.enter 45 u) X := Pl.enters Tryz.func45 (by kernel_rfl) rfl u X
end More6
open More6
set_option maxRecDepth 100000 in
set_option maxHeartbeats 4000000 in
theorem IntegerMore_walkL (w : World) (sa : Bool) (Aa : Option Addr) (ca : Nat) (xsa : List Nat) (ua : U w (.slice Aa xsa.length ca) xsa) (k1 : Int) (hk1 : -32768 ≤ k1 ∧ k1 < 32768) (S2 : ByteArray) (hx : (300 : Int) < (S2.size : Int)) :
    Calls Tryz.prog 4 #[.agg #[.bool sa, .slice Aa xsa.length ca], .int .i16 k1, .string S2] w fun e w' => e = .returned (.bool true) ∧ Ext w w' := by
  have r_a : Ri w (.agg #[.bool sa, .slice Aa xsa.length ca]) sa xsa := ⟨_, _, rfl, ua⟩
  obtain ⟨a, e_a⟩ : ∃ z, sg sa (cutN xsa 12) = z := ⟨_, rfl⟩
  have b_a : Sz a 12 := by rw [← e_a]; exact Sz.cut ua sa 12 12 (Nat.le_refl _)
  obtain ⟨k, hk⟩ : ∃ k, Int.tmod k1 600 = k := ⟨_, rfl⟩
  obtain ⟨m, hm⟩ : ∃ m : Nat, k1 % 32 = (m : Int) := ⟨(k1 % 32).toNat, by omega⟩
  have hkb : -600 ≤ k ∧ k ≤ 600 := by rw [← hk]; exact tmod_b k1
  have hmb : m < 32 := by omega
  
  refine Pl.calls_by (n := 94) (vs := [.agg #[.bool sa, .slice Aa xsa.length ca], .int .i16 k1, .string S2]) Tryz.func4 rfl (by kernel_rfl) (by simp) ?_
  refine Pl.V_seq ?_
  refine Pl.V_region (by kernel_rfl) ?_
  refine boxS rfl rfl rfl rfl rfl (fun _ _ => trivial) ?_
  intro N1 w1 hB1 i_1
  refine Pl.qA_assign trivial rfl rfl rfl rfl rfl ?_
  refine Pl.pA_end ?_
  refine Pl.V_seq ?_
  refine Pl.V_region (by kernel_rfl) ?_
  refine Pl.pA_call rfl rfl rfl rfl rfl en12 ?_
  refine Calls.mono (zhead _) ?_
  rintro e w2 ⟨rfl, hB2⟩
  refine ⟨_, rfl, trivial, ?_⟩
  refine Pl.qA_assign trivial rfl rfl rfl rfl rfl ?_
  refine Pl.pA_end ?_
  refine Pl.V_seq ?_
  refine Pl.V_region (by kernel_rfl) ?_
  have i_1__2 := Ib.ext i_1 hB2
  refine Pl.qA_loadw trivial rfl rfl rfl rfl rfl (Ib.load i_1__2) ?_
  have r_a__2 := Ri.below r_a (Ext.below hB1 hB2)
  refine Pl.pA_call rfl rfl rfl rfl rfl en35 ?_
  refine Calls.mono (rmade_B _ _ sa xsa r_a__2 12 _ rfl (by decide) a e_a) ?_
  rintro e w3 ⟨v_x4, rfl, h_x4, hB3⟩
  refine ⟨_, rfl, trivial, ?_⟩
  obtain ⟨p_x4, A_x4, L_x4, c_x4, rfl⟩ := Zn.sh h_x4
  refine boxI rfl rfl rfl rfl rfl rfl rfl rfl (fun _ => rfl) (fun _ _ => trivial) ?_
  intro N5 w4 hB4 i_5
  refine Pl.pA_end ?_
  refine Pl.V_seq ?_
  refine Pl.V_seq ?_
  refine Pl.V_region (by kernel_rfl) ?_
  refine Pl.qA_move trivial rfl rfl rfl rfl rfl ?_
  refine qA_lens trivial rfl rfl rfl rfl rfl ?_
  refine Pl.qA_bin (v := (.bool true)) trivial rfl rfl rfl rfl rfl rfl (fun X => b_gtr (decide_eq_true hx) X) ?_
  refine Pl.pA_end ?_
  refine Pl.V_true rfl ?_
  refine Pl.V_seq ?_
  refine Pl.V_region (by kernel_rfl) ?_
  refine Pl.qA_move trivial rfl rfl rfl rfl rfl ?_
  refine Pl.qA_assign trivial rfl rfl rfl rfl rfl ?_
  refine Pl.pA_end ?_
  refine Pl.post_ret rfl rfl ?_
  exact ⟨rfl, (Ext.below hB1 (Ext.below hB2 (Ext.below hB3 hB4)))⟩
set_option maxRecDepth 100000 in
set_option maxHeartbeats 4000000 in
theorem IntegerMore_walkB (w : World) (sa : Bool) (Aa : Option Addr) (ca : Nat) (xsa : List Nat) (ua : U w (.slice Aa xsa.length ca) xsa) (k1 : Int) (hk1 : -32768 ≤ k1 ∧ k1 < 32768) (S2 : ByteArray) (hx : ¬ (300 : Int) < (S2.size : Int)) (zb : Int) (hR : RdBad S2 zb) :
    Calls Tryz.prog 4 #[.agg #[.bool sa, .slice Aa xsa.length ca], .int .i16 k1, .string S2] w fun e w' => e = .returned (.bool true) ∧ Ext w w' := by
  have r_a : Ri w (.agg #[.bool sa, .slice Aa xsa.length ca]) sa xsa := ⟨_, _, rfl, ua⟩
  obtain ⟨a, e_a⟩ : ∃ z, sg sa (cutN xsa 12) = z := ⟨_, rfl⟩
  have b_a : Sz a 12 := by rw [← e_a]; exact Sz.cut ua sa 12 12 (Nat.le_refl _)
  obtain ⟨k, hk⟩ : ∃ k, Int.tmod k1 600 = k := ⟨_, rfl⟩
  obtain ⟨m, hm⟩ : ∃ m : Nat, k1 % 32 = (m : Int) := ⟨(k1 % 32).toNat, by omega⟩
  have hkb : -600 ≤ k ∧ k ≤ 600 := by rw [← hk]; exact tmod_b k1
  have hmb : m < 32 := by omega
  
  refine Pl.calls_by (n := 94) (vs := [.agg #[.bool sa, .slice Aa xsa.length ca], .int .i16 k1, .string S2]) Tryz.func4 rfl (by kernel_rfl) (by simp) ?_
  refine Pl.V_seq ?_
  refine Pl.V_region (by kernel_rfl) ?_
  refine boxS rfl rfl rfl rfl rfl (fun _ _ => trivial) ?_
  intro N1 w1 hB1 i_1
  refine Pl.qA_assign trivial rfl rfl rfl rfl rfl ?_
  refine Pl.pA_end ?_
  refine Pl.V_seq ?_
  refine Pl.V_region (by kernel_rfl) ?_
  refine Pl.pA_call rfl rfl rfl rfl rfl en12 ?_
  refine Calls.mono (zhead _) ?_
  rintro e w2 ⟨rfl, hB2⟩
  refine ⟨_, rfl, trivial, ?_⟩
  refine Pl.qA_assign trivial rfl rfl rfl rfl rfl ?_
  refine Pl.pA_end ?_
  refine Pl.V_seq ?_
  refine Pl.V_region (by kernel_rfl) ?_
  have i_1__2 := Ib.ext i_1 hB2
  refine Pl.qA_loadw trivial rfl rfl rfl rfl rfl (Ib.load i_1__2) ?_
  have r_a__2 := Ri.below r_a (Ext.below hB1 hB2)
  refine Pl.pA_call rfl rfl rfl rfl rfl en35 ?_
  refine Calls.mono (rmade_B _ _ sa xsa r_a__2 12 _ rfl (by decide) a e_a) ?_
  rintro e w3 ⟨v_x4, rfl, h_x4, hB3⟩
  refine ⟨_, rfl, trivial, ?_⟩
  obtain ⟨p_x4, A_x4, L_x4, c_x4, rfl⟩ := Zn.sh h_x4
  refine boxI rfl rfl rfl rfl rfl rfl rfl rfl (fun _ => rfl) (fun _ _ => trivial) ?_
  intro N5 w4 hB4 i_5
  refine Pl.pA_end ?_
  refine Pl.V_seq ?_
  refine Pl.V_seq ?_
  refine Pl.V_region (by kernel_rfl) ?_
  refine Pl.qA_move trivial rfl rfl rfl rfl rfl ?_
  refine qA_lens trivial rfl rfl rfl rfl rfl ?_
  refine Pl.qA_bin (v := (.bool false)) trivial rfl rfl rfl rfl rfl rfl (fun X => b_gtr (decide_eq_false hx) X) ?_
  refine Pl.pA_end ?_
  refine Pl.V_false rfl ?_
  refine Pl.V_skip ?_
  refine Pl.V_seq ?_
  refine Pl.V_region (by kernel_rfl) ?_
  refine Pl.qA_move trivial rfl rfl rfl rfl rfl ?_
  refine qA_conv (v := (.int .i64 k1)) trivial rfl rfl rfl rfl rfl (fun X => cv_i16 hk1 X) ?_
  refine Pl.qA_bin (v := (.int .i64 k)) trivial rfl rfl rfl rfl rfl rfl (fun X => b_remI hk (by decide) (by omega) (by decide) (by omega) X) ?_
  refine Pl.qA_assign trivial rfl rfl rfl rfl rfl ?_
  refine Pl.pA_end ?_
  refine Pl.V_seq ?_
  refine Pl.V_region (by kernel_rfl) ?_
  refine Pl.qA_move trivial rfl rfl rfl rfl rfl ?_
  refine Pl.pA_call rfl rfl rfl rfl rfl en36 ?_
  refine Calls.mono (hR.1 _) ?_
  rintro e w5 ⟨rfl, hB5⟩
  refine ⟨_, rfl, trivial, ?_⟩
  refine Pl.qA_move trivial rfl rfl rfl rfl rfl ?_
  refine Pl.qA_extract trivial rfl rfl rfl rfl rfl rfl ?_
  refine Pl.qA_extract trivial rfl rfl rfl rfl rfl rfl ?_
  refine Pl.qA_extract trivial rfl rfl rfl rfl rfl rfl ?_
  refine boxI rfl rfl rfl rfl rfl rfl rfl rfl (fun _ => rfl) (fun _ _ => trivial) ?_
  intro N6 w6 hB6 i_6
  refine Pl.qA_assign trivial rfl rfl rfl rfl rfl ?_
  refine Pl.qA_assign trivial rfl rfl rfl rfl rfl ?_
  refine Pl.pA_end ?_
  refine Pl.V_seq ?_
  refine Pl.V_region (by kernel_rfl) ?_
  refine Pl.qA_move trivial rfl rfl rfl rfl rfl ?_
  refine Pl.pA_call rfl rfl rfl rfl rfl en37 ?_
  refine Calls.mono (hR.2 _) ?_
  rintro e w7 ⟨rfl, hB7⟩
  refine ⟨_, rfl, trivial, ?_⟩
  refine Pl.qA_move trivial rfl rfl rfl rfl rfl ?_
  refine Pl.qA_extract trivial rfl rfl rfl rfl rfl rfl ?_
  refine Pl.qA_extract trivial rfl rfl rfl rfl rfl rfl ?_
  refine Pl.qA_extract trivial rfl rfl rfl rfl rfl rfl ?_
  refine boxI rfl rfl rfl rfl rfl rfl rfl rfl (fun _ => rfl) (fun _ _ => trivial) ?_
  intro N7 w8 hB8 i_7
  refine Pl.qA_assign trivial rfl rfl rfl rfl rfl ?_
  refine Pl.qA_assign trivial rfl rfl rfl rfl rfl ?_
  refine Pl.pA_end ?_
  refine Pl.V_seq ?_
  refine Pl.V_region (by kernel_rfl) ?_
  refine Pl.qA_move trivial rfl rfl rfl rfl rfl ?_
  refine qA_conv (v := (.int .i64 k1)) trivial rfl rfl rfl rfl rfl (fun X => cv_i16 hk1 X) ?_
  refine Pl.qA_bin (v := (.int .i64 ((m : Nat) : Int))) trivial rfl rfl rfl rfl rfl rfl (fun X => b_and31 hm X) ?_
  refine Pl.qA_assign trivial rfl rfl rfl rfl rfl ?_
  refine Pl.pA_end ?_
  refine Pl.V_seq ?_
  refine Pl.V_draw (S := fun X => Ext w8 X) [(true, 0, 0), (true, 1, 1), (true, 2, 3), (true, 3, 7), (true, 5, 15), (true, 6, 47), (false, 4, 111), (false, 7, 127), (false, 8, 255), (true, 9, 511), (true, 10, 1023), (true, 11, 2047), (true, 12, 4095), (true, 14, 8191), (true, 15, 24575), (false, 13, 57343), (false, 16, 65535), (false, 17, 131071), (true, 18, 262143), (true, 19, 524287), (true, 20, 1048575), (true, 22, 2097151), (false, 21, 6291455), (false, 23, 8388607), (true, 24, 16777215), (true, 25, 33554431), (true, 26, 67108863), (true, 27, 134217727), (true, 28, 268435455), (false, 29, 536870911), (true, 30, 1073741823), (true, 31, 2147483647), (true, 32, 4294967295), (true, 33, 8589934591), (true, 34, 17179869183), (true, 35, 34359738367), (true, 36, 68719476735), (true, 37, 137438953471), (true, 38, 274877906943), (true, 39, 549755813887), (true, 40, 1099511627775), (true, 41, 2199023255551), (true, 42, 4398046511103), (true, 43, 8796093022207), (true, 44, 17592186044415), (true, 46, 35184372088831), (true, 47, 105553116266495), (true, 48, 246290604621823), (false, 45, 527765581332479), (false, 49, 562949953421311), (false, 50, 1125899906842623), (true, 51, 2251799813685247), (true, 52, 4503599627370495)] fo Pl.post_panic (by kernel_rfl) (Ext.drew (Ext.refl w8)) ?_
  generalize w8.drew = w9
  intro hB9
  have hS9 := hB9
  refine Pl.qA_move hS9 rfl rfl rfl rfl rfl ?_
  refine Pl.qA_move hS9 rfl rfl rfl rfl rfl ?_
  have i_5__8 := Ib.ext i_5 (Ext.below hB5 (Ext.below hB6 (Ext.below hB7 hB8)))
  refine Pl.qA_load hS9 rfl rfl rfl rfl rfl (fun X hX => Ib.load (Ib.ext i_5__8 hX)) ?_
  refine Pl.qA_move hS9 rfl rfl rfl rfl rfl ?_
  refine Pl.qA_load hS9 rfl rfl rfl rfl rfl (fun X hX => Ib.load (Ib.ext i_5__8 hX)) ?_
  refine Pl.qA_move hS9 rfl rfl rfl rfl rfl ?_
  have h_x4__9 := Zn.below h_x4 (Ext.below hB4 (Ext.below hB5 (Ext.below hB6 (Ext.below hB7 (Ext.below hB8 hB9)))))
  refine Pl.pA_call rfl rfl rfl rfl rfl en38 ?_
  refine Calls.mono (zpow _ _ a (m) h_x4__9 (Sz.le b_a (by decide)) (powN_len b_a (by omega) (by decide)) (by omega) _ rfl) ?_
  rintro e w10 ⟨v_x9, rfl, h_x9, hB10⟩
  have hS10 := Ext.below hS9 hB10
  refine ⟨_, rfl, hS10, ?_⟩
  have b_x9 : Sz (a ^ (m)) 372 := Sz.pow b_a (by omega) (by decide)
  have h_x4__10 := Zn.below h_x4__9 hB10
  refine Pl.pA_call rfl rfl rfl rfl rfl en39 ?_
  refine Calls.mono (rzpow _ _ a (m) h_x4__10 (Sz.le b_a (by decide)) (powN_len b_a (by omega) (by decide)) (by omega) _ rfl) ?_
  rintro e w11 ⟨v_x11, rfl, h_x11, hB11⟩
  have hS11 := Ext.below hS10 hB11
  refine ⟨_, rfl, hS11, ?_⟩
  have b_x11 : Sz (a ^ (m)) 372 := Sz.pow b_a (by omega) (by decide)
  have h_x9__11 := Zn.below h_x9 hB11
  refine Pl.pA_call rfl rfl rfl rfl rfl en20 ?_
  refine Calls.mono (rzsame _ _ _ (a ^ (m)) (a ^ (m)) h_x9__11 h_x11 (Sz.le b_x9 (by decide)) (Sz.le b_x11 (by decide)) true (decide_eq_true rfl)) ?_
  rintro e w12 ⟨rfl, hB12⟩
  have hS12 := Ext.below hS11 hB12
  refine ⟨_, rfl, hS12, ?_⟩
  refine Pl.qA_pick hS12 rfl rfl rfl rfl rfl rfl ?_
  refine Pl.qA_move hS12 rfl rfl rfl rfl rfl ?_
  refine Pl.qA_load hS12 rfl rfl rfl rfl rfl (fun X hX => Ib.load (Ib.ext i_5__8 hX)) ?_
  refine Pl.qA_move hS12 rfl rfl rfl rfl rfl ?_
  refine Pl.qA_load hS12 rfl rfl rfl rfl rfl (fun X hX => Ib.load (Ib.ext i_5__8 hX)) ?_
  refine Pl.qA_move hS12 rfl rfl rfl rfl rfl ?_
  have h_x4__12 := Zn.below h_x4__10 (Ext.below hB11 hB12)
  refine Pl.pA_call rfl rfl rfl rfl rfl en40 ?_
  refine Calls.mono (zshl _ _ a k h_x4__12 (Sz.le b_a (by decide)) (by omega) (by omega)) ?_
  rintro e w13 ⟨v_x14, rfl, h_x14, hB13⟩
  have hS13 := Ext.below hS12 hB13
  refine ⟨_, rfl, hS13, ?_⟩
  have b_x14 : Sz (shl a k) 41 := Sz.shl b_a (by omega) (by decide)
  have h_x4__13 := Zn.below h_x4__12 hB13
  refine Pl.pA_call rfl rfl rfl rfl rfl en41 ?_
  refine Calls.mono (rzshift _ _ a k h_x4__13 (Sz.le b_a (by decide)) (by omega) (by omega)) ?_
  rintro e w14 ⟨v_x16, rfl, h_x16, hB14⟩
  have hS14 := Ext.below hS13 hB14
  refine ⟨_, rfl, hS14, ?_⟩
  have b_x16 : Sz (shl a k) 41 := Sz.shl b_a (by omega) (by decide)
  have h_x14__14 := Zn.below h_x14 hB14
  refine Pl.pA_call rfl rfl rfl rfl rfl en20 ?_
  refine Calls.mono (rzsame _ _ _ (shl a k) (shl a k) h_x14__14 h_x16 (Sz.le b_x14 (by decide)) (Sz.le b_x16 (by decide)) true (decide_eq_true rfl)) ?_
  rintro e w15 ⟨rfl, hB15⟩
  have hS15 := Ext.below hS14 hB15
  refine ⟨_, rfl, hS15, ?_⟩
  refine Pl.qA_pick hS15 rfl rfl rfl rfl rfl rfl ?_
  refine Pl.qA_move hS15 rfl rfl rfl rfl rfl ?_
  refine Pl.qA_load hS15 rfl rfl rfl rfl rfl (fun X hX => Ib.load (Ib.ext i_5__8 hX)) ?_
  refine Pl.qA_load hS15 rfl rfl rfl rfl rfl (fun X hX => Ib.load (Ib.ext i_5__8 hX)) ?_
  have h_x4__15 := Zn.below h_x4__13 (Ext.below hB14 hB15)
  refine Pl.pA_call rfl rfl rfl rfl rfl en42 ?_
  refine Calls.mono (ztext _ _ a h_x4__15 (Nat.le_trans b_a (by decide))) ?_
  rintro e w16 ⟨rfl, hB16⟩
  have hS16 := Ext.below hS15 hB16
  refine ⟨_, rfl, hS16, ?_⟩
  have h_x4__16 := Zn.below h_x4__15 hB16
  refine Pl.pA_call rfl rfl rfl rfl rfl en43 ?_
  refine Calls.mono (rztext _ _ a h_x4__16 (Nat.le_trans b_a (by decide))) ?_
  rintro e w17 ⟨rfl, hB17⟩
  have hS17 := Ext.below hS16 hB17
  refine ⟨_, rfl, hS17, ?_⟩
  refine Pl.qA_bin (v := (.bool true)) hS17 rfl rfl rfl rfl rfl rfl (fun X => b_eqs rfl X) ?_
  refine Pl.qA_pick hS17 rfl rfl rfl rfl rfl rfl ?_
  refine Pl.qA_move hS17 rfl rfl rfl rfl rfl ?_
  have i_6__8 := Ib.ext i_6 (Ext.below hB7 hB8)
  refine Pl.qA_load hS17 rfl rfl rfl rfl rfl (fun X hX => Ib.load (Ib.ext i_6__8 hX)) ?_
  refine Pl.qA_load hS17 rfl rfl rfl rfl rfl (fun X hX => Ib.load (Ib.ext i_7 hX)) ?_
  refine Pl.pA_call rfl rfl rfl rfl rfl en20 ?_
  refine Calls.mono (rzsame _ _ _ 0 0 (Zn.zero _ _ _) (Zn.zero _ _ _) (Sz.zero) (Sz.zero) true (by decide)) ?_
  rintro e w18 ⟨rfl, hB18⟩
  have hS18 := Ext.below hS17 hB18
  refine ⟨_, rfl, hS18, ?_⟩
  refine Pl.qA_pick hS18 rfl rfl rfl rfl rfl rfl ?_
  refine Pl.qA_move hS18 rfl rfl rfl rfl rfl ?_
  refine Pl.qA_move hS18 rfl rfl rfl rfl rfl ?_
  refine Pl.qA_move hS18 rfl rfl rfl rfl rfl ?_
  refine Pl.qA_bin (v := (.bool true)) hS18 rfl rfl rfl rfl rfl rfl (fun X => b_eql (beq_self_eq_true _) X) ?_
  refine Pl.qA_pick hS18 rfl rfl rfl rfl rfl rfl ?_
  refine Pl.qA_move hS18 rfl rfl rfl rfl rfl ?_
  refine Pl.qA_move hS18 rfl rfl rfl rfl rfl ?_
  refine Pl.qA_move hS18 rfl rfl rfl rfl rfl ?_
  refine Pl.qA_bin (v := (.bool true)) hS18 rfl rfl rfl rfl rfl rfl (fun X => by go_simp) ?_
  refine Pl.qA_pick hS18 rfl rfl rfl rfl rfl rfl ?_
  refine Pl.qA_move hS18 rfl rfl rfl rfl rfl ?_
  refine Pl.qA_move hS18 rfl rfl rfl rfl rfl ?_
  refine qA_conv (v := (.int .i64 k1)) hS18 rfl rfl rfl rfl rfl (fun X => cv_i16l hk1 X) ?_
  refine Pl.qA_bin (v := (.int .i64 (k1 * 4294967311))) hS18 rfl rfl rfl rfl rfl rfl (fun X => b_mull (by omega) X) ?_
  refine Pl.qA_move hS18 rfl rfl rfl rfl rfl ?_
  refine qA_conv (v := (.int .i64 k1)) hS18 rfl rfl rfl rfl rfl (fun X => cv_i16l hk1 X) ?_
  refine Pl.qA_bin (v := (.int .i64 (k1 * 4294967311))) hS18 rfl rfl rfl rfl rfl rfl (fun X => b_mull (by omega) X) ?_
  refine Pl.pA_call rfl rfl rfl rfl rfl en44 ?_
  refine Calls.mono (zof _ (k1 * 4294967311) (by omega) (by omega)) ?_
  rintro e w19 ⟨v_x20, rfl, h_x20, hB19⟩
  have hS19 := Ext.below hS18 hB19
  refine ⟨_, rfl, hS19, ?_⟩
  have b_x20 : Sz (k1 * 4294967311) 2 := Sz.two64 (by omega)
  refine Pl.pA_call rfl rfl rfl rfl rfl en45 ?_
  refine Calls.mono (rzof _ (k1 * 4294967311) (by omega) (by omega)) ?_
  rintro e w20 ⟨v_x21, rfl, h_x21, hB20⟩
  have hS20 := Ext.below hS19 hB20
  refine ⟨_, rfl, hS20, ?_⟩
  have b_x21 : Sz (k1 * 4294967311) 2 := Sz.two64 (by omega)
  have h_x20__20 := Zn.below h_x20 hB20
  refine Pl.pA_call rfl rfl rfl rfl rfl en20 ?_
  refine Calls.mono (rzsame _ _ _ (k1 * 4294967311) (k1 * 4294967311) h_x20__20 h_x21 (Sz.le b_x20 (by decide)) (Sz.le b_x21 (by decide)) true (decide_eq_true rfl)) ?_
  rintro e w21 ⟨rfl, hB21⟩
  have hS21 := Ext.below hS20 hB21
  refine ⟨_, rfl, hS21, ?_⟩
  refine Pl.qA_pick hS21 rfl rfl rfl rfl rfl rfl ?_
  refine Pl.qA_assign hS21 rfl rfl rfl rfl rfl ?_
  refine Pl.pA_end ?_
  refine Pl.post_ret rfl rfl ?_
  exact ⟨rfl, (Ext.below hB1 (Ext.below hB2 (Ext.below hB3 (Ext.below hB4 (Ext.below hB5 (Ext.below hB6 (Ext.below hB7 (Ext.below hB8 (Ext.below hB9 (Ext.below hB10 (Ext.below hB11 (Ext.below hB12 (Ext.below hB13 (Ext.below hB14 (Ext.below hB15 (Ext.below hB16 (Ext.below hB17 (Ext.below hB18 (Ext.below hB19 (Ext.below hB20 hB21))))))))))))))))))))⟩
set_option maxRecDepth 100000 in
set_option maxHeartbeats 4000000 in
theorem IntegerMore_walkG (w : World) (sa : Bool) (Aa : Option Addr) (ca : Nat) (xsa : List Nat) (ua : U w (.slice Aa xsa.length ca) xsa) (k1 : Int) (hk1 : -32768 ≤ k1 ∧ k1 < 32768) (S2 : ByteArray) (hx : ¬ (300 : Int) < (S2.size : Int)) (yg : Int) (hyg : Sz yg 400) (hR : RdGood S2 yg) :
    Calls Tryz.prog 4 #[.agg #[.bool sa, .slice Aa xsa.length ca], .int .i16 k1, .string S2] w fun e w' => e = .returned (.bool true) ∧ Ext w w' := by
  have r_a : Ri w (.agg #[.bool sa, .slice Aa xsa.length ca]) sa xsa := ⟨_, _, rfl, ua⟩
  obtain ⟨a, e_a⟩ : ∃ z, sg sa (cutN xsa 12) = z := ⟨_, rfl⟩
  have b_a : Sz a 12 := by rw [← e_a]; exact Sz.cut ua sa 12 12 (Nat.le_refl _)
  obtain ⟨k, hk⟩ : ∃ k, Int.tmod k1 600 = k := ⟨_, rfl⟩
  obtain ⟨m, hm⟩ : ∃ m : Nat, k1 % 32 = (m : Int) := ⟨(k1 % 32).toNat, by omega⟩
  have hkb : -600 ≤ k ∧ k ≤ 600 := by rw [← hk]; exact tmod_b k1
  have hmb : m < 32 := by omega
  
  refine Pl.calls_by (n := 94) (vs := [.agg #[.bool sa, .slice Aa xsa.length ca], .int .i16 k1, .string S2]) Tryz.func4 rfl (by kernel_rfl) (by simp) ?_
  refine Pl.V_seq ?_
  refine Pl.V_region (by kernel_rfl) ?_
  refine boxS rfl rfl rfl rfl rfl (fun _ _ => trivial) ?_
  intro N1 w1 hB1 i_1
  refine Pl.qA_assign trivial rfl rfl rfl rfl rfl ?_
  refine Pl.pA_end ?_
  refine Pl.V_seq ?_
  refine Pl.V_region (by kernel_rfl) ?_
  refine Pl.pA_call rfl rfl rfl rfl rfl en12 ?_
  refine Calls.mono (zhead _) ?_
  rintro e w2 ⟨rfl, hB2⟩
  refine ⟨_, rfl, trivial, ?_⟩
  refine Pl.qA_assign trivial rfl rfl rfl rfl rfl ?_
  refine Pl.pA_end ?_
  refine Pl.V_seq ?_
  refine Pl.V_region (by kernel_rfl) ?_
  have i_1__2 := Ib.ext i_1 hB2
  refine Pl.qA_loadw trivial rfl rfl rfl rfl rfl (Ib.load i_1__2) ?_
  have r_a__2 := Ri.below r_a (Ext.below hB1 hB2)
  refine Pl.pA_call rfl rfl rfl rfl rfl en35 ?_
  refine Calls.mono (rmade_B _ _ sa xsa r_a__2 12 _ rfl (by decide) a e_a) ?_
  rintro e w3 ⟨v_x4, rfl, h_x4, hB3⟩
  refine ⟨_, rfl, trivial, ?_⟩
  obtain ⟨p_x4, A_x4, L_x4, c_x4, rfl⟩ := Zn.sh h_x4
  refine boxI rfl rfl rfl rfl rfl rfl rfl rfl (fun _ => rfl) (fun _ _ => trivial) ?_
  intro N5 w4 hB4 i_5
  refine Pl.pA_end ?_
  refine Pl.V_seq ?_
  refine Pl.V_seq ?_
  refine Pl.V_region (by kernel_rfl) ?_
  refine Pl.qA_move trivial rfl rfl rfl rfl rfl ?_
  refine qA_lens trivial rfl rfl rfl rfl rfl ?_
  refine Pl.qA_bin (v := (.bool false)) trivial rfl rfl rfl rfl rfl rfl (fun X => b_gtr (decide_eq_false hx) X) ?_
  refine Pl.pA_end ?_
  refine Pl.V_false rfl ?_
  refine Pl.V_skip ?_
  refine Pl.V_seq ?_
  refine Pl.V_region (by kernel_rfl) ?_
  refine Pl.qA_move trivial rfl rfl rfl rfl rfl ?_
  refine qA_conv (v := (.int .i64 k1)) trivial rfl rfl rfl rfl rfl (fun X => cv_i16 hk1 X) ?_
  refine Pl.qA_bin (v := (.int .i64 k)) trivial rfl rfl rfl rfl rfl rfl (fun X => b_remI hk (by decide) (by omega) (by decide) (by omega) X) ?_
  refine Pl.qA_assign trivial rfl rfl rfl rfl rfl ?_
  refine Pl.pA_end ?_
  refine Pl.V_seq ?_
  refine Pl.V_region (by kernel_rfl) ?_
  refine Pl.qA_move trivial rfl rfl rfl rfl rfl ?_
  refine Pl.pA_call rfl rfl rfl rfl rfl en36 ?_
  refine Calls.mono (hR.1 _) ?_
  rintro e w5 ⟨v_x6, rfl, h_x6, hB5⟩
  refine ⟨_, rfl, trivial, ?_⟩
  refine Pl.qA_move trivial rfl rfl rfl rfl rfl ?_
  refine Pl.qA_extract trivial rfl rfl rfl rfl rfl rfl ?_
  refine Pl.qA_extract trivial rfl rfl rfl rfl rfl rfl ?_
  refine Pl.qA_extract trivial rfl rfl rfl rfl rfl rfl ?_
  obtain ⟨p_x6, A_x6, L_x6, c_x6, rfl⟩ := Zn.sh h_x6
  refine boxI rfl rfl rfl rfl rfl rfl rfl rfl (fun _ => rfl) (fun _ _ => trivial) ?_
  intro N7 w6 hB6 i_7
  refine Pl.qA_assign trivial rfl rfl rfl rfl rfl ?_
  refine Pl.qA_assign trivial rfl rfl rfl rfl rfl ?_
  refine Pl.pA_end ?_
  refine Pl.V_seq ?_
  refine Pl.V_region (by kernel_rfl) ?_
  refine Pl.qA_move trivial rfl rfl rfl rfl rfl ?_
  refine Pl.pA_call rfl rfl rfl rfl rfl en37 ?_
  refine Calls.mono (hR.2 _) ?_
  rintro e w7 ⟨v_x8, rfl, h_x8, hB7⟩
  refine ⟨_, rfl, trivial, ?_⟩
  refine Pl.qA_move trivial rfl rfl rfl rfl rfl ?_
  refine Pl.qA_extract trivial rfl rfl rfl rfl rfl rfl ?_
  refine Pl.qA_extract trivial rfl rfl rfl rfl rfl rfl ?_
  refine Pl.qA_extract trivial rfl rfl rfl rfl rfl rfl ?_
  obtain ⟨p_x8, A_x8, L_x8, c_x8, rfl⟩ := Zn.sh h_x8
  refine boxI rfl rfl rfl rfl rfl rfl rfl rfl (fun _ => rfl) (fun _ _ => trivial) ?_
  intro N9 w8 hB8 i_9
  refine Pl.qA_assign trivial rfl rfl rfl rfl rfl ?_
  refine Pl.qA_assign trivial rfl rfl rfl rfl rfl ?_
  refine Pl.pA_end ?_
  refine Pl.V_seq ?_
  refine Pl.V_region (by kernel_rfl) ?_
  refine Pl.qA_move trivial rfl rfl rfl rfl rfl ?_
  refine qA_conv (v := (.int .i64 k1)) trivial rfl rfl rfl rfl rfl (fun X => cv_i16 hk1 X) ?_
  refine Pl.qA_bin (v := (.int .i64 ((m : Nat) : Int))) trivial rfl rfl rfl rfl rfl rfl (fun X => b_and31 hm X) ?_
  refine Pl.qA_assign trivial rfl rfl rfl rfl rfl ?_
  refine Pl.pA_end ?_
  refine Pl.V_seq ?_
  refine Pl.V_draw (S := fun X => Ext w8 X) [(true, 0, 0), (true, 1, 1), (true, 2, 3), (true, 3, 7), (true, 5, 15), (true, 6, 47), (false, 4, 111), (false, 7, 127), (false, 8, 255), (true, 9, 511), (true, 10, 1023), (true, 11, 2047), (true, 12, 4095), (true, 14, 8191), (true, 15, 24575), (false, 13, 57343), (false, 16, 65535), (false, 17, 131071), (true, 18, 262143), (true, 19, 524287), (true, 20, 1048575), (true, 22, 2097151), (false, 21, 6291455), (false, 23, 8388607), (true, 24, 16777215), (true, 25, 33554431), (true, 26, 67108863), (true, 27, 134217727), (true, 28, 268435455), (false, 29, 536870911), (true, 30, 1073741823), (true, 31, 2147483647), (true, 32, 4294967295), (true, 33, 8589934591), (true, 34, 17179869183), (true, 35, 34359738367), (true, 36, 68719476735), (true, 37, 137438953471), (true, 38, 274877906943), (true, 39, 549755813887), (true, 40, 1099511627775), (true, 41, 2199023255551), (true, 42, 4398046511103), (true, 43, 8796093022207), (true, 44, 17592186044415), (true, 46, 35184372088831), (true, 47, 105553116266495), (true, 48, 246290604621823), (false, 45, 527765581332479), (false, 49, 562949953421311), (false, 50, 1125899906842623), (true, 51, 2251799813685247), (true, 52, 4503599627370495)] fo Pl.post_panic (by kernel_rfl) (Ext.drew (Ext.refl w8)) ?_
  generalize w8.drew = w9
  intro hB9
  have hS9 := hB9
  refine Pl.qA_move hS9 rfl rfl rfl rfl rfl ?_
  refine Pl.qA_move hS9 rfl rfl rfl rfl rfl ?_
  have i_5__8 := Ib.ext i_5 (Ext.below hB5 (Ext.below hB6 (Ext.below hB7 hB8)))
  refine Pl.qA_load hS9 rfl rfl rfl rfl rfl (fun X hX => Ib.load (Ib.ext i_5__8 hX)) ?_
  refine Pl.qA_move hS9 rfl rfl rfl rfl rfl ?_
  refine Pl.qA_load hS9 rfl rfl rfl rfl rfl (fun X hX => Ib.load (Ib.ext i_5__8 hX)) ?_
  refine Pl.qA_move hS9 rfl rfl rfl rfl rfl ?_
  have h_x4__9 := Zn.below h_x4 (Ext.below hB4 (Ext.below hB5 (Ext.below hB6 (Ext.below hB7 (Ext.below hB8 hB9)))))
  refine Pl.pA_call rfl rfl rfl rfl rfl en38 ?_
  refine Calls.mono (zpow _ _ a (m) h_x4__9 (Sz.le b_a (by decide)) (powN_len b_a (by omega) (by decide)) (by omega) _ rfl) ?_
  rintro e w10 ⟨v_x11, rfl, h_x11, hB10⟩
  have hS10 := Ext.below hS9 hB10
  refine ⟨_, rfl, hS10, ?_⟩
  have b_x11 : Sz (a ^ (m)) 372 := Sz.pow b_a (by omega) (by decide)
  have h_x4__10 := Zn.below h_x4__9 hB10
  refine Pl.pA_call rfl rfl rfl rfl rfl en39 ?_
  refine Calls.mono (rzpow _ _ a (m) h_x4__10 (Sz.le b_a (by decide)) (powN_len b_a (by omega) (by decide)) (by omega) _ rfl) ?_
  rintro e w11 ⟨v_x13, rfl, h_x13, hB11⟩
  have hS11 := Ext.below hS10 hB11
  refine ⟨_, rfl, hS11, ?_⟩
  have b_x13 : Sz (a ^ (m)) 372 := Sz.pow b_a (by omega) (by decide)
  have h_x11__11 := Zn.below h_x11 hB11
  refine Pl.pA_call rfl rfl rfl rfl rfl en20 ?_
  refine Calls.mono (rzsame _ _ _ (a ^ (m)) (a ^ (m)) h_x11__11 h_x13 (Sz.le b_x11 (by decide)) (Sz.le b_x13 (by decide)) true (decide_eq_true rfl)) ?_
  rintro e w12 ⟨rfl, hB12⟩
  have hS12 := Ext.below hS11 hB12
  refine ⟨_, rfl, hS12, ?_⟩
  refine Pl.qA_pick hS12 rfl rfl rfl rfl rfl rfl ?_
  refine Pl.qA_move hS12 rfl rfl rfl rfl rfl ?_
  refine Pl.qA_load hS12 rfl rfl rfl rfl rfl (fun X hX => Ib.load (Ib.ext i_5__8 hX)) ?_
  refine Pl.qA_move hS12 rfl rfl rfl rfl rfl ?_
  refine Pl.qA_load hS12 rfl rfl rfl rfl rfl (fun X hX => Ib.load (Ib.ext i_5__8 hX)) ?_
  refine Pl.qA_move hS12 rfl rfl rfl rfl rfl ?_
  have h_x4__12 := Zn.below h_x4__10 (Ext.below hB11 hB12)
  refine Pl.pA_call rfl rfl rfl rfl rfl en40 ?_
  refine Calls.mono (zshl _ _ a k h_x4__12 (Sz.le b_a (by decide)) (by omega) (by omega)) ?_
  rintro e w13 ⟨v_x16, rfl, h_x16, hB13⟩
  have hS13 := Ext.below hS12 hB13
  refine ⟨_, rfl, hS13, ?_⟩
  have b_x16 : Sz (shl a k) 41 := Sz.shl b_a (by omega) (by decide)
  have h_x4__13 := Zn.below h_x4__12 hB13
  refine Pl.pA_call rfl rfl rfl rfl rfl en41 ?_
  refine Calls.mono (rzshift _ _ a k h_x4__13 (Sz.le b_a (by decide)) (by omega) (by omega)) ?_
  rintro e w14 ⟨v_x18, rfl, h_x18, hB14⟩
  have hS14 := Ext.below hS13 hB14
  refine ⟨_, rfl, hS14, ?_⟩
  have b_x18 : Sz (shl a k) 41 := Sz.shl b_a (by omega) (by decide)
  have h_x16__14 := Zn.below h_x16 hB14
  refine Pl.pA_call rfl rfl rfl rfl rfl en20 ?_
  refine Calls.mono (rzsame _ _ _ (shl a k) (shl a k) h_x16__14 h_x18 (Sz.le b_x16 (by decide)) (Sz.le b_x18 (by decide)) true (decide_eq_true rfl)) ?_
  rintro e w15 ⟨rfl, hB15⟩
  have hS15 := Ext.below hS14 hB15
  refine ⟨_, rfl, hS15, ?_⟩
  refine Pl.qA_pick hS15 rfl rfl rfl rfl rfl rfl ?_
  refine Pl.qA_move hS15 rfl rfl rfl rfl rfl ?_
  refine Pl.qA_load hS15 rfl rfl rfl rfl rfl (fun X hX => Ib.load (Ib.ext i_5__8 hX)) ?_
  refine Pl.qA_load hS15 rfl rfl rfl rfl rfl (fun X hX => Ib.load (Ib.ext i_5__8 hX)) ?_
  have h_x4__15 := Zn.below h_x4__13 (Ext.below hB14 hB15)
  refine Pl.pA_call rfl rfl rfl rfl rfl en42 ?_
  refine Calls.mono (ztext _ _ a h_x4__15 (Nat.le_trans b_a (by decide))) ?_
  rintro e w16 ⟨rfl, hB16⟩
  have hS16 := Ext.below hS15 hB16
  refine ⟨_, rfl, hS16, ?_⟩
  have h_x4__16 := Zn.below h_x4__15 hB16
  refine Pl.pA_call rfl rfl rfl rfl rfl en43 ?_
  refine Calls.mono (rztext _ _ a h_x4__16 (Nat.le_trans b_a (by decide))) ?_
  rintro e w17 ⟨rfl, hB17⟩
  have hS17 := Ext.below hS16 hB17
  refine ⟨_, rfl, hS17, ?_⟩
  refine Pl.qA_bin (v := (.bool true)) hS17 rfl rfl rfl rfl rfl rfl (fun X => b_eqs rfl X) ?_
  refine Pl.qA_pick hS17 rfl rfl rfl rfl rfl rfl ?_
  refine Pl.qA_move hS17 rfl rfl rfl rfl rfl ?_
  have i_7__8 := Ib.ext i_7 (Ext.below hB7 hB8)
  refine Pl.qA_load hS17 rfl rfl rfl rfl rfl (fun X hX => Ib.load (Ib.ext i_7__8 hX)) ?_
  refine Pl.qA_load hS17 rfl rfl rfl rfl rfl (fun X hX => Ib.load (Ib.ext i_9 hX)) ?_
  have h_x6__17 := Zn.below h_x6 (Ext.below hB6 (Ext.below hB7 (Ext.below hB8 (Ext.below hB9 (Ext.below hB10 (Ext.below hB11 (Ext.below hB12 (Ext.below hB13 (Ext.below hB14 (Ext.below hB15 (Ext.below hB16 hB17)))))))))))
  have h_x8__17 := Zn.below h_x8 (Ext.below hB8 (Ext.below hB9 (Ext.below hB10 (Ext.below hB11 (Ext.below hB12 (Ext.below hB13 (Ext.below hB14 (Ext.below hB15 (Ext.below hB16 hB17)))))))))
  refine Pl.pA_call rfl rfl rfl rfl rfl en20 ?_
  refine Calls.mono (rzsame _ _ _ yg yg h_x6__17 h_x8__17 (Sz.le hyg (by decide)) (Sz.le hyg (by decide)) true (decide_eq_true rfl)) ?_
  rintro e w18 ⟨rfl, hB18⟩
  have hS18 := Ext.below hS17 hB18
  refine ⟨_, rfl, hS18, ?_⟩
  refine Pl.qA_pick hS18 rfl rfl rfl rfl rfl rfl ?_
  refine Pl.qA_move hS18 rfl rfl rfl rfl rfl ?_
  refine Pl.qA_move hS18 rfl rfl rfl rfl rfl ?_
  refine Pl.qA_move hS18 rfl rfl rfl rfl rfl ?_
  refine Pl.qA_bin (v := (.bool true)) hS18 rfl rfl rfl rfl rfl rfl (fun X => by go_simp) ?_
  refine Pl.qA_pick hS18 rfl rfl rfl rfl rfl rfl ?_
  refine Pl.qA_move hS18 rfl rfl rfl rfl rfl ?_
  refine Pl.qA_move hS18 rfl rfl rfl rfl rfl ?_
  refine Pl.qA_move hS18 rfl rfl rfl rfl rfl ?_
  refine Pl.qA_bin (v := (.bool true)) hS18 rfl rfl rfl rfl rfl rfl (fun X => by go_simp) ?_
  refine Pl.qA_pick hS18 rfl rfl rfl rfl rfl rfl ?_
  refine Pl.qA_move hS18 rfl rfl rfl rfl rfl ?_
  refine Pl.qA_move hS18 rfl rfl rfl rfl rfl ?_
  refine qA_conv (v := (.int .i64 k1)) hS18 rfl rfl rfl rfl rfl (fun X => cv_i16l hk1 X) ?_
  refine Pl.qA_bin (v := (.int .i64 (k1 * 4294967311))) hS18 rfl rfl rfl rfl rfl rfl (fun X => b_mull (by omega) X) ?_
  refine Pl.qA_move hS18 rfl rfl rfl rfl rfl ?_
  refine qA_conv (v := (.int .i64 k1)) hS18 rfl rfl rfl rfl rfl (fun X => cv_i16l hk1 X) ?_
  refine Pl.qA_bin (v := (.int .i64 (k1 * 4294967311))) hS18 rfl rfl rfl rfl rfl rfl (fun X => b_mull (by omega) X) ?_
  refine Pl.pA_call rfl rfl rfl rfl rfl en44 ?_
  refine Calls.mono (zof _ (k1 * 4294967311) (by omega) (by omega)) ?_
  rintro e w19 ⟨v_x24, rfl, h_x24, hB19⟩
  have hS19 := Ext.below hS18 hB19
  refine ⟨_, rfl, hS19, ?_⟩
  have b_x24 : Sz (k1 * 4294967311) 2 := Sz.two64 (by omega)
  refine Pl.pA_call rfl rfl rfl rfl rfl en45 ?_
  refine Calls.mono (rzof _ (k1 * 4294967311) (by omega) (by omega)) ?_
  rintro e w20 ⟨v_x25, rfl, h_x25, hB20⟩
  have hS20 := Ext.below hS19 hB20
  refine ⟨_, rfl, hS20, ?_⟩
  have b_x25 : Sz (k1 * 4294967311) 2 := Sz.two64 (by omega)
  have h_x24__20 := Zn.below h_x24 hB20
  refine Pl.pA_call rfl rfl rfl rfl rfl en20 ?_
  refine Calls.mono (rzsame _ _ _ (k1 * 4294967311) (k1 * 4294967311) h_x24__20 h_x25 (Sz.le b_x24 (by decide)) (Sz.le b_x25 (by decide)) true (decide_eq_true rfl)) ?_
  rintro e w21 ⟨rfl, hB21⟩
  have hS21 := Ext.below hS20 hB21
  refine ⟨_, rfl, hS21, ?_⟩
  refine Pl.qA_pick hS21 rfl rfl rfl rfl rfl rfl ?_
  refine Pl.qA_assign hS21 rfl rfl rfl rfl rfl ?_
  refine Pl.pA_end ?_
  refine Pl.post_ret rfl rfl ?_
  exact ⟨rfl, (Ext.below hB1 (Ext.below hB2 (Ext.below hB3 (Ext.below hB4 (Ext.below hB5 (Ext.below hB6 (Ext.below hB7 (Ext.below hB8 (Ext.below hB9 (Ext.below hB10 (Ext.below hB11 (Ext.below hB12 (Ext.below hB13 (Ext.below hB14 (Ext.below hB15 (Ext.below hB16 (Ext.below hB17 (Ext.below hB18 (Ext.below hB19 (Ext.below hB20 hB21))))))))))))))))))))⟩
theorem IntegerMore_walk (w : World) (sa : Bool) (Aa : Option Addr) (ca : Nat) (xsa : List Nat) (ua : U w (.slice Aa xsa.length ca) xsa) (k1 : Int) (hk1 : -32768 ≤ k1 ∧ k1 < 32768) (S2 : ByteArray) :
    Calls Tryz.prog 4 #[.agg #[.bool sa, .slice Aa xsa.length ca], .int .i16 k1, .string S2] w fun e w' => e = .returned (.bool true) ∧ Ext w w' := by
  by_cases hx : (300 : Int) < (S2.size : Int)
  · exact IntegerMore_walkL w sa Aa ca xsa ua k1 hk1 S2 hx
  rcases tell10 S2 (by omega) with ⟨z, hR⟩ | ⟨y, hy, hR⟩
  · exact IntegerMore_walkB w sa Aa ca xsa ua k1 hk1 S2 hx z hR
  · exact IntegerMore_walkG w sa Aa ca xsa ua k1 hk1 S2 hx y hy hR
end Go.Proofs.YtfkcdmbiihkiiaaGreatDoor
/- Proved: what the statement IntegerMore does: powers, shifts, texts, and what any text is read as, are the document's: it tells true. No condition. -/
namespace Go.Proofs.YtfkcdmbiihkiiaaGreatDoor
open Go.ChangeShapes Go.WideShapes Go.ChangeAt Go.RowKit
set_option linter.unusedVariables false
set_option maxHeartbeats 2000000

set_option maxRecDepth 100000 in
theorem lifted_IntegerMore (os : Os) (started : os.Started) (H : Type) (enc : TypeId × Value → H) :
    ReturnsInHanded {} Tryz.checked os 4 .any (fun w args => (Rows.integerMoreSpec.pre enc Tryz.prog Tryz.f4 [] false w args ∧ laidMetH Tryz.prog laidV w) ∧ sizedMet enc Tryz.prog Tryz.f4 (OpenSpec.ofChange Rows.integerMoreSpec) false w args)
      (Rows.integerMoreSpec.post enc Tryz.prog Tryz.f4 false true false false) := by
  refine returnsInHanded_of_change_and (C := Tryz.checked) (X := fun w _ => laidMetH Tryz.prog laidV w) (fun _ _ _ hh h => h.of_heap hh) own started (by kernel_rfl) Tryz.func4
    (ChangeSpec.witness_shaped (enc := enc) (C := Tryz.checked) (os := os) (X := fun w _ => laidMetH Tryz.prog laidV w) false (World.laidAll Tryz.prog os laidV) #[.agg #[.bool false, .slice none 0 0], .int .i16 0, .string ⟨#[]⟩] 8 (World.laidAll_os _ _ _) (World.shaped_of_ZipB (by kernel_rfl) (by kernel_rfl)) (by kernel_rfl) (by kernel_rfl) (by kernel_rfl) (laid_met os _)) ?_
  intro W base args ds gs before hval0 hW _ _ hL _
  have hval : ∀ (j : Nat) t v, Tryz.f4.params[j]? = some t → args[j]? = some v → Value.okWide Tryz.prog W .any base t v := hval0
  have hW' := hW
  obtain ⟨p, q, hA0, hV, rfl, hfz, hnd⟩ := hW
  have hlt : ∀ x ∈ p ++ q, x.block < W.heap.size := fun x hx => hW'.lt x hx
  have hA : DataW.TrodAll enc Tryz.prog W 0 (fun _ => true) true Tryz.f4.params.toList args.toList ds p := hA0
  rw [Tryz.params4] at hA hval
  clear hA0 hval0
  obtain ⟨v0, vs0, d0, ds0, p0, q0, hargs0, rfl, rfl, h0, r0⟩ := trodAll_cons hA
  obtain ⟨v1, vs1, d1, ds1, p1, q1, hargs1, rfl, rfl, h1, r1⟩ := trodAll_cons r0
  obtain ⟨v2, vs2, d2, ds2, p2, q2, hargs2, rfl, rfl, h2, r2⟩ := trodAll_cons r1
  obtain ⟨hn1, rfl, rfl⟩ := trodAll_nil r2
  subst hn1
  subst hargs2
  subst hargs1
  obtain rfl : args = #[v0, v1, v2] := by cases args; simp_all
  obtain ⟨rfl, rfl⟩ := trodVars_none hV
  obtain ⟨s0a, A0a, c0a, x0a, hv0, u0a⟩ := open_I1 (hval 0 24 v0 rfl rfl) h0
  subst hv0
  obtain ⟨z1, rfl, rfl, rfl, hz1⟩ := open_int Tryz.underlying39 (hval 1 39 v1 rfl rfl) h1
  have hb1 := bounds_i16 hz1
  obtain ⟨s2, rfl⟩ := okWide_string Tryz.underlying9 (hval 2 9 v2 rfl rfl)
  refine (IntegerMore_walk W s0a A0a c0a x0a u0a z1 (by omega) s2).mono fun e W' ⟨he, hB⟩ => ?_
  subst he
  exact ⟨_, rfl, law_post hW' rfl (by rw [Tryz.params4]; decide +kernel) rfl rfl rfl rfl hB⟩

theorem integerMore_said : Rows.IntegerMoreSaid :=
  OpenClaim.holds_of_wide 4 Tryz.f4 rfl rfl rfl rfl rfl rfl rfl ⟨rfl, rfl, rfl, rfl, rfl⟩ rfl rfl rfl rfl rfl (by kernel_rfl) Tryz.func4 (by kernel_rfl)
    (of_decide_eq_true (by kernel_rfl)) (by unfold Func.isWrapper; first | (rw [if_pos (by decide +kernel)]; kernel_rfl) | (rw [if_neg (by decide +kernel)]; exact ⟨rfl, rfl⟩))
    (fun os started H enc _ => lifted_IntegerMore os started H enc)
/-- The statement: the card, tied. -/
theorem integerMore_holds : Rows.IntegerMoreCardSaid :=
  Claim7.holds_tied_plain_at .later [] [.data, .wider, .pinned] true Rows.integerMoreCard.stood.harness false
    integerMore_said (fun _ h => by cases h) (by kernel_rfl) (fun _ h => by cases h) integerMore_row_tie rfl ⟨rfl, rfl⟩ (by kernel_rfl) rfl
    (fun f fn hf hfn => by
      obtain rfl : f = 4 := Option.some.inj ((show Tryz.prog.funcNamed "ziggurat/zigguratlaw06.IntegerMore" = some 4 by kernel_rfl).symm.trans hf) |>.symm
      obtain rfl : fn = Tryz.f4 := (Option.some.inj (Tryz.func4.symm.trans hfn)).symm
      exact ⟨by kernel_rfl, fun j t ht => by
        rw [Tryz.params4] at ht
        have hm : t ∈ [24, 39, 9] := by simpa using Array.mem_of_getElem? ht
        have hall : ([24, 39, 9].all fun u => !Tryz.prog.wantsStandIn u) = true := by kernel_rfl
        exact (show Tryz.prog.wantsStandIn t = false by simpa using List.all_eq_true.1 hall t hm)⟩)
    (by kernel_rfl)
end Go.Proofs.YtfkcdmbiihkiiaaGreatDoor
