/- Powers of small numbers: no row of the number theoretic transform is read. -/
import Derived.Test.YtfkcdmbiihkiiaaGreatDoorBav
import Derived.Test.YtfkcdmbiihkiiaaGreatDoorBay

namespace Go.Proofs.YtfkcdmbiihkiiaaGreatDoor
open Go.RowKit
set_option linter.unusedVariables false
set_option maxHeartbeats 400000

theorem pow_limbsN {a q e n : Nat} (ha : a < LB ^ q) (he : e ≤ n) : (limbs (a ^ e)).length ≤ q * n + 1 := by
  refine len_of ?_
  have h1 : a ^ e ≤ (LB ^ q) ^ e := Nat.pow_le_pow_left (Nat.le_of_lt ha) e
  rw [← Nat.pow_mul] at h1
  have h2 : LB ^ (q * e) ≤ LB ^ (q * n) := Nat.pow_le_pow_right (by decide) (Nat.mul_le_mul_left _ he)
  have h3 : LB ^ (q * n + 1) = LB ^ (q * n) * LB := Nat.pow_succ _ _
  have h4 : 0 < LB ^ (q * n) := Nat.pow_pos (by decide)
  rw [h3]
  unfold LB at *
  omega
theorem i64_and1N (v : Nat) (h : v < 9223372036854775808) : bits .and .i64 (v : Int) 1 = ((v % 2 : Nat) : Int) := by
  have e1 : (BitVec.ofInt 64 1).toNat = 2 ^ 1 - 1 := by decide
  have key : (BitVec.ofInt 64 (v : Int) &&& BitVec.ofInt 64 1).toNat = v % 2 := by
    rw [BitVec.toNat_and, e1, Nat.and_two_pow_sub_one_eq_mod, BitVec.toNat_ofInt]; omega
  show IntKind.i64.wrap ((BitVec.ofInt 64 (v : Int) &&& BitVec.ofInt 64 1).toNat : Nat) = _
  rw [key, IntKind.wrap_i64]
  omega
theorem limbs_smallN (x : Nat) (h0 : x ≠ 0) (h : x < 4294967296) : limbs x = [x] := by
  rw [limbs_pos h0, Nat.mod_eq_of_lt h, Nat.div_eq_of_lt h, limbs_zero]
theorem un_one (w : World) (x : Nat) (h0 : x ≠ 0) (h : x < 4294967296) : Un (w.alloc (.cells #[.int .u32 (x : Nat)] 56)) (.slice (some ⟨w.heap.size, 0, none⟩) 1 1) x := by
  have := U_lit w [x] (by simpa using h) (by simp)
  rw [Un, limbs_smallN x h0 h]
  exact this

theorem pow_halfN (a n i : Nat) : a ^ (n / 2 ^ i) = a ^ (n / 2 ^ (i + 1)) * a ^ (n / 2 ^ (i + 1)) * (if n / 2 ^ i % 2 = 1 then a else 1) := by
  have e : n / 2 ^ (i + 1) = n / 2 ^ i / 2 := by rw [Nat.pow_succ, Nat.div_div_eq_div_mul]
  rw [e, ← Nat.pow_add]
  split
  · rw [← Nat.pow_succ]; congr 1; omega
  · rw [Nat.mul_one]; congr 1; omega

set_option maxRecDepth 100000 in
set_option maxHeartbeats 4000000 in
theorem powN (w : World) (va : Value) (a q n : Nat) (hu : Un w va a) (ha : a < LB ^ q) (hq : q * n ≤ 380) (hq2 : q ≤ 390) (hn : n ≤ 1000) (k : Nat) (hk : a ^ n = k) :
    Calls Tryz.prog 70 #[va, .int .i64 (n : Nat)] w fun e w' => ∃ u, e = .returned u ∧ Un w' u k ∧ Ext w w' := by
  subst hk
  have hal : (limbs a).length ≤ 398 := Nat.le_trans (len_of ha) (by omega)
  have HAL : Hid (∀ x, x = a → (limbs x).length ≤ 398) := fun x e => by rw [e]; exact hal
  have hPl := Lib.hid (fun e (he : e ≤ n) => Nat.le_trans (pow_limbsN (e := e) ha he) (show q * n + 1 ≤ 398 by omega))
  have hHF := Lib.hid (pow_halfN a n)
  have hlen := Lib.hid (fun W => len_calls W n (by omega))
  have hbl : n < 2 ^ blen n := lt_pow_blen n
  have hb20 : blen n ≤ 20 := blen_le_of_lt (Nat.lt_of_le_of_lt hn (by decide))
  obtain ⟨L, hL⟩ : ∃ L, blen n = L := ⟨_, rfl⟩
  rw [hL] at hlen hbl hb20
  have hz0 : Hid (n / 2 ^ L = 0) := Nat.div_eq_of_lt hbl
  obtain ⟨A, ca, rfl, hca⟩ := U.shape (U.asUn hu)
  have hmax1 : (if (n : Int) < 0 then (0 : Int) else (n : Int)) = (n : Int) := by split <;> omega
  have hmax2 : max (n : Int) 0 = (n : Int) := by omega
  have hmax3 : (if (0 : Int) < (n : Int) then (n : Int) else 0) = (n : Int) := by split <;> omega
  have hmax4 : (if 0 < n then (n : Int) else 0) = (n : Int) := by split <;> omega
  have hnw : IntKind.u64.wrap (n : Int) = (n : Int) := by rw [IntKind.wrap_u64]; omega
  have hnm : (n : Int) % 18446744073709551616 = (n : Int) := by omega
  have hE0 := (Ext.refl w).alloc (.cells #[.int .u32 1] 56)
  have hone : Un (w.alloc (.cells #[.int .u32 1] 56)) (.slice (some ⟨w.heap.size, 0, none⟩) 1 1) 1 := by
    have := U_lit w [1] (by simp) (by simp)
    rw [Un, limbs_smallN 1 (by decide) (by decide)]
    exact this
  clear hL hbl ha
  go_enter Tryz.func70, Tryz.ntmps70
  go_wp2_with (fail)
  refine (hlen.out _).mono ?_
  rintro e w1 ⟨rfl, rfl⟩
  generalize (w.alloc (.cells #[.int .u32 1] 56)) = w1 at *
  have hu1 : Un w1 (.slice A (limbs a).length ca) a := U.below (U.asUn hu) hE0
  generalize (limbs a).length = la at *
  clear hu
  go_wp2
  go_loopw [6, 5] (fun t s wr => ∃ (j : Nat), j ≤ L ∧ t = .int .i64 ((j : Int) - 1) ∧ Un wr s (a ^ (n / 2 ^ j)) ∧ Un wr (.slice A la ca) a ∧ Ext w wr) (fun t _ _ => ((intOf t) + 1).toNat)
  case atStart => exact ⟨L, Nat.le_refl _, rfl, by rw [hz0.out, Nat.pow_zero]; exact hone, hu1, hE0⟩
  case round =>
    clear hone hu1 hE0
    obtain ⟨j, hj, rfl, hz, hua, hE⟩ := hrel
    rcases j with _ | i
    · have hd : decide ((0 : Int) ≤ ((0 : Nat) : Int) - 1) = false := by decide
      obtain ⟨A2, c2, rfl, hcc⟩ := U.shape (U.asUn hz)
      have HF : Hid (∃ u', Ending.returned (.slice A2 (limbs (a ^ (n / 2 ^ 0))).length c2) = .returned u' ∧ Un wr u' (a ^ n) ∧ Ext w wr) := ⟨_, rfl, by rw [Nat.pow_zero, Nat.div_one] at hz ⊢; exact hz, hE⟩
      clear hz hE
      go_wp2
      go_ret
      exact HF.out
    · have hi1 : ((i + 1 : Nat) : Int) - 1 = (i : Int) := by omega
      rw [hi1]
      obtain ⟨A2, c2, rfl, hcc⟩ := U.shape (U.asUn hz)
      have hle : n / 2 ^ (i + 1) ≤ n := Nat.div_le_self _ _
      have hle2 : n / 2 ^ i ≤ n := Nat.div_le_self _ _
      obtain ⟨v, hv⟩ : ∃ v, n / 2 ^ i = v := ⟨_, rfl⟩
      obtain ⟨p, hp⟩ : ∃ p, n / 2 ^ (i + 1) = p := ⟨_, rfl⟩
      have hhf := hHF.out i
      rw [hv, hp] at hhf
      rw [hp] at hz hle ⊢
      rw [hv] at hle2
      have hvi : (n : Int) / 2 ^ i = (v : Int) := by rw [← hv, Int.natCast_ediv, Int.natCast_pow]; rfl
      have hand := i64_and1N v (by omega)
      have hpp : (limbs (a ^ p * a ^ p)).length ≤ 398 := by
        rw [← Nat.pow_add]
        refine hPl.out _ ?_
        have : n / 2 ^ (i + 1) = n / 2 ^ i / 2 := by rw [Nat.pow_succ, Nat.div_div_eq_div_mul]
        rw [hp, hv] at this
        omega
      have hM := Lib.hid (mulN wr _ _ (a ^ p) (a ^ p) _ hz hz (hPl.out p hle) (hPl.out p hle) rfl)
      have HV := Lib.hid hv
      generalize (limbs (a ^ p)).length = lz at *
      clear hz hp hv
      by_cases hb : v % 2 = 1
      · rw [hb] at hand
        rw [if_pos hb] at hhf
        have hhf2 := Lib.hid hhf
        have hbe : (bits .and .i64 (v : Int) 1 == 1) = true := by rw [hand]; rfl
        clear hb hhf hand
        go_wp2_with (fail)
        refine hM.out.mono ?_
        rintro e w2 ⟨u, rfl, hu2, hB⟩
        replace hua := U.below (U.asUn hua) hB
        replace hE := hE.below hB
        obtain ⟨A3, c3, rfl, hc3⟩ := U.shape (U.asUn hu2)
        have hM2 := Lib.hid (mulN w2 _ _ (a ^ p * a ^ p) a _ hu2 hua hpp (HAL.out a rfl) rfl)
        clear hM hB hu2
        generalize (limbs (a ^ p * a ^ p)).length = lz2 at *
        go_wp2_with (fail)
        refine hM2.out.mono ?_
        rintro e w3 ⟨u, rfl, hu3, hB⟩
        replace hua := U.below hua hB
        replace hE := hE.below hB
        rw [← hhf2.out] at hu3
        obtain ⟨A4, c4, rfl, hc4⟩ := U.shape (U.asUn hu3)
        have HU : Hid (Un w3 (.slice A4 (limbs (a ^ v)).length c4) (a ^ (n / 2 ^ i))) := by rw [Hid, HV.out]; exact hu3
        generalize (limbs (a ^ v)).length = lz4 at *
        clear hM2 hB hu3 hhf2
        go_wp2
        go_roundw
        case rel => exact ⟨i, by omega, rfl, HU.out, hua, hE⟩
        case measure => simp [intOf]
      · have hb0 : v % 2 = 0 := by omega
        rw [hb0] at hand
        rw [if_neg hb, Nat.mul_one] at hhf
        have hhf2 := Lib.hid hhf
        have hbe : (bits .and .i64 (v : Int) 1 == 1) = false := by rw [hand]; rfl
        clear hb hb0 hhf hand
        go_wp2_with (fail)
        refine hM.out.mono ?_
        rintro e w2 ⟨u, rfl, hu2, hB⟩
        replace hua := U.below (U.asUn hua) hB
        replace hE := hE.below hB
        rw [← hhf2.out] at hu2
        obtain ⟨A3, c3, rfl, hc3⟩ := U.shape (U.asUn hu2)
        have HU : Hid (Un w2 (.slice A3 (limbs (a ^ v)).length c3) (a ^ (n / 2 ^ i))) := by rw [Hid, HV.out]; exact hu2
        generalize (limbs (a ^ v)).length = lz4 at *
        clear hM hB hu2 hhf2
        go_wp2
        go_roundw
        case rel => exact ⟨i, by omega, rfl, HU.out, hua, hE⟩
        case measure => simp [intOf]
end Go.Proofs.YtfkcdmbiihkiiaaGreatDoor
/- The powers of a base that are kept. -/
namespace Go.Proofs.YtfkcdmbiihkiiaaGreatDoor
open Go.RowKit
set_option linter.unusedVariables false
set_option maxHeartbeats 400000
attribute [local go_sem ↓] app_shut
attribute [local go_sem] run_append_tok

/-- The first K powers lie in the row that box Bk tells. -/
structure Kp (B b n : Nat) (w : World) (Bk K : Nat) : Prop where
  lo : B ≤ Bk
  fr : w.frozen? ⟨Bk, 0, none⟩ = false
  k1 : 1 ≤ K ∧ K ≤ 1000
  row : ∃ g cap es, w.cell? ⟨Bk, 0, none⟩ = some (.slice (some ⟨g, 0, none⟩) K cap) ∧ Rw B w g K cap es ∧ g ≠ Bk ∧ ∀ i, i < K → ∃ e, es[i]? = some e ∧ Un w e (kp b n i)
theorem Kp.lt {B b n : Nat} {w : World} {Bk K : Nat} (h : Kp B b n w Bk K) : Bk < w.heap.size := by
  obtain ⟨g, cap, es, h1, _⟩ := h.row
  exact cell_lt h1
theorem Kp.ext {B b n : Nat} {w w' : World} {Bk K : Nat} (h : Kp B b n w Bk K) (k : Ext w w') : Kp B b n w' Bk K := by
  have hlt := h.lt
  obtain ⟨g, cap, es, h1, h2, h3, h4⟩ := h.row
  have hb : w'.heap[Bk]? = w.heap[Bk]? := k.block Bk hlt
  refine ⟨h.lo, (World.frozen?_of_block (a := ⟨Bk, 0, none⟩) hb).trans h.fr, h.k1, g, cap, es, (World.cell?_of_block (a := ⟨Bk, 0, none⟩) hb).trans h1, h2.ext k, h3, fun i hi => ?_⟩
  obtain ⟨e, h5, h6⟩ := h4 i hi
  exact ⟨e, h5, h6.below k⟩
/-- A row of bytes holds no slice. -/
theorem By.noSl {T : TypeId} {w : World} {g : Nat} {o : List Nat} (h : By T w g o) {p : Addr} (hp : p.block = g) {v : Value} (hv : w.cell? p = some v) : ¬ Sl v := by
  unfold By at h
  unfold World.cell? at hv
  rw [hp, h] at hv
  simp only at hv
  split at hv
  · cases hv
  · have := Array.mem_of_getElem? hv
    have h2 := Array.mem_toList_iff.2 this
    simp only [Bv] at h2
    obtain ⟨z, _, rfl⟩ := List.mem_map.1 h2
    rintro ⟨a, l, c, e⟩
    cases e
/-- The powers lie in no row of bytes. -/
theorem Kp.butBy {B b n : Nat} {T : TypeId} {w w' : World} {Bk K q : Nat} {o : List Nat} (h : Kp B b n w Bk K) (hB : By T w q o) (k : But q w w') : Kp B b n w' Bk K := by
  have hlt := h.lt
  obtain ⟨g, cap, es, h1, h2, h3, h4⟩ := h.row
  have hq : Bk ≠ q := fun e => hB.noSl (p := ⟨Bk, 0, none⟩) e h1 ⟨_, _, _, rfl⟩
  have hb : w'.heap[Bk]? = w.heap[Bk]? := k.block Bk hlt (fun e => hq (by injection e))
  have hg : g ≠ q := by
    intro e
    have hk1 := h.k1
    have hc := h2.cell (j := 0) (by omega)
    obtain ⟨e0, h5, h6⟩ := h4 0 (by omega)
    rw [h5] at hc
    exact hB.noSl (p := ⟨g, 0, none⟩) e hc h6.sl
  refine ⟨h.lo, (World.frozen?_of_block (a := ⟨Bk, 0, none⟩) hb).trans h.fr, h.k1, g, cap, es, (World.cell?_of_block (a := ⟨Bk, 0, none⟩) hb).trans h1, h2.of (k.block g h2.lt (fun e => hg (by injection e))), h3, fun i hi => ?_⟩
  obtain ⟨e, h5, h6⟩ := h4 i hi
  exact ⟨e, h5, U.butBy h6 hB k⟩
theorem pow16 (w : World) (va : Value) (p : Nat) (hu : Un w va p) (hp : p < 4294967296) :
    Calls Tryz.prog 70 #[va, .int .i64 16] w fun e w' => ∃ u, e = .returned u ∧ Un w' u (p ^ 16) ∧ Ext w w' :=
  powN w va p 1 16 hu (by unfold LB; simpa using hp) (by omega) (by omega) (by omega) _ rfl
set_option maxRecDepth 100000 in
set_option maxHeartbeats 4000000 in
theorem kpowers_calls (w : World) (B b n p : Nat) (hS : Sc b n p) (hB : B ≤ w.heap.size) :
    Calls Tryz.prog 83 #[SV b n p] w fun e w' => (∃ Bk, e = .returned (.func (.func 114) #[] #[.pointer (some ⟨Bk, 0, none⟩)]) ∧ Kp B b n w' Bk 1 ∧ w.heap.size ≤ Bk) ∧ Ext w w' := by
  have hp2 := hS.p2
  have hpf := hS.fit
  have hk0 := kp_zero b n p hS.pw
  have hmf : ∀ (fn : Fn) (first cap : Array Value) (w : World), (Instr.makeFunc fn first cap).run Tryz.prog w = .ok (.func fn first cap) w := fun _ _ _ _ => rfl
  have hE0 := ((Ext.refl w).alloc (.cells #[.int .u32 (b : Nat), .int .i64 (n : Nat), .int .u32 (p : Nat)] 80)).alloc (.cells #[.int .u32 (p : Nat)] 56)
  have hu0 := un_one (w.alloc (.cells #[.int .u32 (b : Nat), .int .i64 (n : Nat), .int .u32 (p : Nat)] 80)) p (by omega) hpf
  have hsz : (w.alloc (.cells #[.int .u32 (b : Nat), .int .i64 (n : Nat), .int .u32 (p : Nat)] 80)).heap.size = w.heap.size + 1 := by simp
  rw [hsz] at hu0
  go_enter Tryz.func83, Tryz.ntmps83
  go_wp2_with (go_at_call 70; refine (pow16 _ _ p hu0 hpf).mono ?_; rintro e w3 ⟨u, rfl, hu3, hE3⟩; obtain ⟨A, l, c, rfl⟩ := U.sl hu3)
  go_ret
  have hE := hE0.below hE3
  have hs := hE.size
  have hR := (Rw.new B w3 (.slice A l c) ⟨_, _, _, rfl⟩ (Nat.le_trans hB hs))
  have hR2 := hR.ext ((Ext.refl _).alloc (.cells #[.slice (some ⟨w3.heap.size, 0, none⟩) 1 1] 111))
  have hE5 := ((Ext.refl w3).alloc (.cells #[.slice A l c] 22)).alloc (.cells #[.slice (some ⟨w3.heap.size, 0, none⟩) 1 1] 111)
  refine ⟨⟨w3.heap.size + 1, rfl, ⟨by omega, by go_simp, by omega, w3.heap.size, 1, _, by go_simp, hR2, by omega, fun i hi => ?_⟩, by omega⟩, hE.below hE5⟩
  obtain rfl : i = 0 := by omega
  exact ⟨_, rfl, by rw [hk0]; exact hu3.below hE5⟩
end Go.Proofs.YtfkcdmbiihkiiaaGreatDoor
/- One power is told; what was told is kept. -/
namespace Go.Proofs.YtfkcdmbiihkiiaaGreatDoor
open Go.RowKit
set_option linter.unusedVariables false
set_option maxHeartbeats 400000
attribute [local go_sem ↓] app_shut
attribute [local go_sem] run_append_tok

theorem kp_grow {B b n Bk m g cap g' cap' : Nat} {es : List Value} {w3 w' : World} {A : Option Addr} {l c : Nat} {T : TypeId} (lo : B ≤ Bk) (hk : m + 2 ≤ 1000) (hlt : Bk < w3.heap.size) (hB : B ≤ w3.heap.size)
    (hc : w3.cell? ⟨Bk, 0, none⟩ = some (.slice (some ⟨g, 0, none⟩) (m + 1) cap)) (hf : w3.frozen? ⟨Bk, 0, none⟩ = false)
    (hgb : (w3.alloc (.cells #[.slice A l c] T)).grownBy w' (some g)) (hne : g ≠ Bk) (hg' : g' = g ∨ g' = (w3.alloc (.cells #[.slice A l c] T)).heap.size)
    (hR : Rw B w' g' (m + 1 + 1) cap' (es ++ [.slice A l c])) (hlen : es.length = m + 1) (hes : ∀ i, i < m + 1 → ∃ e, es[i]? = some e ∧ Un w3 e (kp b n i)) (hu : Un w3 (.slice A l c) (kp b n m * kp b n m))
    (hKe : Kee B (w3.alloc (.cells #[.slice A l c] T)) w') :
    w'.cell? ⟨Bk, 0, none⟩ = some (.slice (some ⟨g, 0, none⟩) (m + 1) cap) ∧ w'.frozen? ⟨Bk, 0, none⟩ = false ∧ Bk < w'.heap.size ∧
      Kp B b n (w'.setCell ⟨Bk, 0, none⟩ (.slice (some ⟨g', 0, none⟩) (m + 1 + 1) cap')) Bk (m + 1 + 1) ∧ Kee B w3 (w'.setCell ⟨Bk, 0, none⟩ (.slice (some ⟨g', 0, none⟩) (m + 1 + 1) cap')) := by
  have hE := (Ext.refl w3).alloc (.cells #[.slice A l c] T)
  have hsz : w3.heap.size < (w3.alloc (.cells #[.slice A l c] T)).heap.size := by simp
  have hblk : w'.heap[Bk]? = w3.heap[Bk]? := (hgb.block Bk (by omega) (fun e => hne (by injection e with e; exact e.symm))).trans (hE.block Bk hlt)
  have hc' : w'.cell? ⟨Bk, 0, none⟩ = some (.slice (some ⟨g, 0, none⟩) (m + 1) cap) := (World.cell?_of_block (a := ⟨Bk, 0, none⟩) hblk).trans hc
  have hf' : w'.frozen? ⟨Bk, 0, none⟩ = false := (World.frozen?_of_block (a := ⟨Bk, 0, none⟩) hblk).trans hf
  have hk3 : Kee B w3 w' := (Kee.ofExt hB hE).trans hKe
  have hgn : g' ≠ Bk := by rcases hg' with e | e <;> omega
  have hks : Kee B w3 (w'.setCell ⟨Bk, 0, none⟩ (.slice (some ⟨g', 0, none⟩) (m + 1 + 1) cap')) := by
    refine ⟨hk3.below.trans ⟨rfl, rfl, rfl, by simp [World.setCell], fun k hkB => heap_setCell_other w' ⟨Bk, 0, none⟩ k _ (by show k ≠ Bk; omega)⟩, fun p v hv hns => ?_⟩
    have h1 := hk3.cell p v hv hns
    rw [World.cell?_setCell_other _ _ _ _ (fun e => ?_)]
    · exact h1
    · rw [← e, hc'] at h1
      injection h1 with h1
      exact hns ⟨_, _, _, h1.symm⟩
  refine ⟨hc', hf', cell_lt hc', ⟨lo, by rw [World.frozen?_setCell]; exact hf', by omega, g', cap', _, World.cell?_setCell_same _ _ _ hc', hR.of (heap_setCell_other _ ⟨Bk, 0, none⟩ _ _ hgn), hgn, fun i hi => ?_⟩, hks⟩
  rcases Nat.lt_or_ge i (m + 1) with h | h
  · obtain ⟨e, h1, h2⟩ := hes i h
    exact ⟨e, by rw [List.getElem?_append_left (by omega)]; exact h1, h2.kee hks⟩
  · obtain rfl : i = m + 1 := by omega
    refine ⟨_, by rw [List.getElem?_append_right (by omega), hlen, Nat.sub_self]; rfl, ?_⟩
    rw [kp_succ]
    exact hu.kee hks

set_option maxRecDepth 100000 in
set_option maxHeartbeats 4000000 in
theorem power_calls (w : World) (B b n Bk K i : Nat) (hK : Kp B b n w Bk K) (hB : B ≤ w.heap.size) (hi : i < 900) (hl : ∀ j, j < i → (limbs (kp b n j)).length ≤ 398) :
    Calls Tryz.prog 114 #[.int .i64 (i : Nat), .pointer (some ⟨Bk, 0, none⟩)] w fun e w' => (∃ u, e = .returned u ∧ Un w' u (kp b n i)) ∧ (∃ K', i < K' ∧ K ≤ K' ∧ Kp B b n w' Bk K') ∧ Kee B w w' ∧ (i < K → w' = w) := by
  have HL := Lib.hid hl
  have HB0 := Lib.hid hB
  have HK := Lib.hid hK
  have hKe0 := Kee.refl B w
  obtain ⟨g0, cap0, es0, hc0, _⟩ := hK.row
  clear hl hK
  go_enter Tryz.func114, Tryz.ntmps114
  go_wp2
  go_loopw [4] (fun t wr => ∃ Kr, K ≤ Kr ∧ Hid (Kp B b n wr Bk Kr) ∧ Kee B w wr ∧ Hid (i < K → wr = w)) (fun _ wr => match wr.cell? ⟨Bk, 0, none⟩ with | some (.slice _ l _) => i + 1 - l | _ => 0)
  case atStart => exact ⟨K, Nat.le_refl _, HK, hKe0, fun _ => rfl⟩
  case round =>
    clear HK hKe0 hc0
    obtain ⟨Kr, hKr, HK, hKe, him⟩ := hrel
    have hbs := HK.out.lt
    have hfr := HK.out.fr
    have hlo := HK.out.lo
    have hk1 := HK.out.k1
    obtain ⟨g, cap, es, hc, hR, hne, hes⟩ := HK.out.row
    by_cases hlt : Kr ≤ i
    · obtain ⟨m, hm⟩ : ∃ m, Kr = m + 1 := ⟨Kr - 1, by omega⟩
      subst hm
      obtain ⟨e, hem, hum⟩ := hes m (by omega)
      obtain ⟨A, l, c, rfl⟩ := U.sl hum
      have hcm := (hR.cell (j := m) (by omega)).trans hem
      have hu1 : Un wr.drew (.slice A l c) (kp b n m) := hum
      have hlm := Lib.hid (HL.out m (by omega))
      have hgl := hR.lt
      have hE1 : Ext wr wr.drew := (Ext.refl wr).drew
      have hBr : B ≤ wr.heap.size := Nat.le_trans HB0.out hKe.size
      have hRH := Lib.hid hR
      have hesH := Lib.hid hes
      have hKeH := Lib.hid hKe
      clear hum hem HK him hR hes hKe
      go_wp2
      go_region_with (go_at_call 65; refine (mulN _ _ _ _ _ _ hu1 hu1 hlm.out hlm.out rfl).mono ?_; rintro e w3 ⟨u, rfl, hu3, hE3⟩; obtain ⟨A3, l3, c3, rfl⟩ := U.sl hu3; have hE4 := hE1.below hE3; have hs3 := hE4.size; have hb3 : Bk < w3.heap.size := by { omega }; have hc3 := (hE4.cell (p := ⟨Bk, 0, none⟩) hbs).trans hc; have hf3 : w3.frozen? ⟨Bk, 0, none⟩ = false := (World.frozen?_of_block (a := ⟨Bk, 0, none⟩) (hE4.block Bk hbs)).trans hfr; have hR3 := (hRH.out.ext hE4).ext ((Ext.refl w3).alloc (.cells #[.slice A3 l3 c3] 22)); obtain ⟨g', cap', w', hrun, hR', hgb, hg', hKe'⟩ := hR3.push (.slice A3 l3 c3) ⟨_, _, _, rfl⟩ ⟨w3.heap.size, 0, none⟩ (by go_simp) (by omega) (by simp; omega); obtain ⟨t1, t2, t3⟩ := app_tok hrun; obtain ⟨hc', hf', hb', hK', hKe3⟩ := kp_grow hlo (by omega) hb3 (by omega) hc3 hf3 hgb hne hg' hR' hRH.out.len (fun j hj => (hesH.out j hj).imp fun e he => ⟨he.1, he.2.below hE4⟩) hu3 hKe'; have hK' := Lib.hid hK'; have hKe4 := Lib.hid (hKeH.out.trans ((Kee.ofExt hBr hE4).trans hKe3)); clear hrun hR' hgb hg' hKe' hKe3 hR3 hu3 hE3 hE4)
      all_goals (
        go_wp2
        go_roundw
        case rel => exact ⟨m + 1 + 1, by omega, hK', hKe4.out, fun h => absurd h (by omega)⟩
        case measure =>
          rw [hc, World.cell?_setCell_same _ _ _ hc']
          show i + 1 - (m + 1 + 1) < i + 1 - (m + 1)
          omega)
    · obtain ⟨e, hem, hum⟩ := hes i (by omega)
      obtain ⟨A, l, c, rfl⟩ := U.sl hum
      have hcm := (hR.cell (j := i) (by omega)).trans hem
      have HU := Lib.hid hum
      clear hum hem hR hes
      go_wp2
      go_ret
      exact ⟨⟨_, rfl, HU.out⟩, ⟨Kr, by omega, hKr, HK.out⟩, hKe, him.out⟩
end Go.Proofs.YtfkcdmbiihkiiaaGreatDoor
/- Which power a number is below. -/
namespace Go.Proofs.YtfkcdmbiihkiiaaGreatDoor
open Go.RowKit
set_option linter.unusedVariables false
set_option maxHeartbeats 400000

/-- The function value that tells a power. -/
abbrev Pfn (Bk : Nat) : Value := .func (.func 114) #[] #[.pointer (some ⟨Bk, 0, none⟩)]
theorem cmp_ge (a k : Nat) (h : k ≤ a) : ∃ c : Int, cmpI a k = c ∧ 0 ≤ c := by
  rcases Nat.lt_or_ge k a with h1 | h1
  · exact ⟨1, cmpI_gt (by omega), by decide⟩
  · obtain rfl : a = k := by omega
    exact ⟨0, cmpI_eq _, by decide⟩
theorem kp_len {b n i a : Nat} (h : kp b n i ≤ a) (hl : (limbs a).length ≤ 398) : (limbs (kp b n i)).length ≤ 398 := Nat.le_trans (len_mono h) hl

set_option maxRecDepth 100000 in
set_option maxHeartbeats 4000000 in
theorem above_calls (w : World) (B b n Bk K a I : Nat) (va : Value) (hu : Un w va a) (hK : Kp B b n w Bk K) (hB : B ≤ w.heap.size) (hI : I ≤ 800) (haI : a < kp b n I) (hl : ∀ j, j < I → kp b n j ≤ a) (hal : (limbs a).length ≤ 398) :
    Calls Tryz.prog 86 #[va, Pfn Bk] w fun e w' => e = .returned (.int .i64 (I : Nat)) ∧ (∃ K', I < K' ∧ K ≤ K' ∧ Kp B b n w' Bk K') ∧ Kee B w w' := by
  have HL := Lib.hid hl
  have HAL := Lib.hid hal
  have HAI := Lib.hid haI
  have HB0 := Lib.hid hB
  have HK := Lib.hid hK
  have hKe0 := Kee.refl B w
  have hlt0 := hK.lt
  obtain ⟨A, l, c, rfl⟩ := U.sl hu
  clear hl hK hal haI
  unfold Pfn
  go_enter Tryz.func86, Tryz.ntmps86
  go_wp2
  go_loopw [5] (fun t wr => ∃ i, i ≤ I ∧ t = .int .i64 (i : Nat) ∧ (∃ K', K ≤ K' ∧ (i = 0 ∨ i - 1 < K') ∧ Hid (Kp B b n wr Bk K')) ∧ Kee B w wr ∧ Un wr (.slice A l c) a) (fun t _ => I - (intOf t).toNat)
  case atStart => exact ⟨0, Nat.zero_le _, rfl, ⟨K, Nat.le_refl _, .inl rfl, HK⟩, hKe0, hu⟩
  case round =>
    clear HK hKe0 hu
    obtain ⟨i, hi, rfl, ⟨Kr, hKr, _, HK⟩, hKe, hu⟩ := hrel
    have hBr : B ≤ wr.heap.size := Nat.le_trans HB0.out hKe.size
    have hPC := Lib.hid (power_calls wr B b n Bk Kr i HK.out hBr (by omega) (fun j hj => kp_len (HL.out j (by omega)) HAL.out))
    by_cases hlt : i < I
    · obtain ⟨k, hk, hk0⟩ := cmp_ge a (kp b n i) (HL.out i hlt)
      have hKeH := Lib.hid hKe
      clear HK hKe
      go_wp2_with (first
        | (go_at_call 114; refine hPC.out.mono ?_; rintro e w3 ⟨⟨u, rfl, hu3⟩, ⟨K3, hi3, hK3, hKp3⟩, hKe3, _⟩; obtain ⟨A3, l3, c3, rfl⟩ := U.sl hu3; have hKp4 := Lib.hid hKp3; have hu4 := Un.kee hu hKe3; have hKe4 := Lib.hid (hKeH.out.trans hKe3); clear hKp3 hKe3)
        | (go_at_call 46; refine (cmp_B _ _ _ _ _ hu4 hu3 k hk).mono ?_; rintro e w5 ⟨rfl, hE5⟩))
      go_roundw
      case rel => exact ⟨i + 1, by omega, by go_num, ⟨K3, by omega, .inr (by omega), hKp4.out.ext hE5⟩, hKe4.out.ext (Nat.le_trans (by omega) (Nat.le_refl _)) hE5, hu4.below hE5⟩
      case measure => simp [intOf]; omega
    · obtain rfl : i = I := by omega
      have hk : cmpI (a : Int) (kp b n i : Nat) = -1 := cmpI_lt (by have := HAI.out; omega)
      have hKeH := Lib.hid hKe
      clear HK hKe
      go_wp2_with (first
        | (go_at_call 114; refine hPC.out.mono ?_; rintro e w3 ⟨⟨u, rfl, hu3⟩, ⟨K3, hi3, hK3, hKp3⟩, hKe3, _⟩; obtain ⟨A3, l3, c3, rfl⟩ := U.sl hu3; have hKp4 := Lib.hid hKp3; have hu4 := Un.kee hu hKe3; have hKe4 := Lib.hid (hKeH.out.trans hKe3); clear hKp3 hKe3)
        | (go_at_call 46; refine (cmp_B _ _ _ _ _ hu4 hu3 (-1) hk).mono ?_; rintro e w5 ⟨rfl, hE5⟩))
      go_ret
      exact ⟨rfl, ⟨K3, hi3, by omega, hKp4.out.ext hE5⟩, hKe4.out.ext HB0.out hE5⟩
end Go.Proofs.YtfkcdmbiihkiiaaGreatDoor
/- A row of digits is split at a power. -/
namespace Go.Proofs.YtfkcdmbiihkiiaaGreatDoor
open Go.RowKit
set_option linter.unusedVariables false
set_option maxHeartbeats 400000

/-- A row of bytes holds bytes. -/
theorem By.int {T : TypeId} {w : World} {g : Nat} {o : List Nat} (h : By T w g o) {p : Addr} (hp : p.block = g) {v : Value} (hv : w.cell? p = some v) : ∃ x : Nat, v = .int .u8 (x : Nat) := by
  unfold By at h
  unfold World.cell? at hv
  rw [hp, h] at hv
  simp only at hv
  split at hv
  · cases hv
  · have := Array.mem_of_getElem? hv
    have h2 := Array.mem_toList_iff.2 this
    simp only [Bv] at h2
    obtain ⟨z, _, rfl⟩ := List.mem_map.1 h2
    exact ⟨z, rfl⟩
/-- A cell that holds a function. -/
def Fb (w : World) (Q : Nat) (f : Value) : Prop := Q < w.heap.size ∧ w.cell? ⟨Q, 0, none⟩ = some f
theorem Fb.ext {w w' : World} {Q : Nat} {f : Value} (h : Fb w Q f) (k : Ext w w') : Fb w' Q f := ⟨Nat.lt_of_lt_of_le h.1 k.size, (k.cell (p := ⟨Q, 0, none⟩) h.1).trans h.2⟩
theorem Fb.but {w w' : World} {Q g : Nat} {f : Value} (h : Fb w Q f) (k : But g w w') (hne : Q ≠ g) : Fb w' Q f := ⟨Nat.lt_of_lt_of_le h.1 k.size, (k.cell (p := ⟨Q, 0, none⟩) h.1 hne).trans h.2⟩
theorem Fb.kee {B : Nat} {w w' : World} {Q : Nat} {f : Value} (h : Fb w Q f) (k : Kee B w w') (hf : ¬ Sl f) : Fb w' Q f := ⟨Nat.lt_of_lt_of_le h.1 k.size, k.cell _ _ h.2 hf⟩
/-- The function value that splits. -/
abbrev Sfn (S Pb Sb : Nat) : Value := .func (.func 84) #[] #[.pointer (some ⟨S, 0, none⟩), .pointer (some ⟨Pb, 0, none⟩), .pointer (some ⟨Sb, 0, none⟩)]
/-- What lies by while digits are written. -/
structure Lie (B b n p : Nat) (w : World) (S Pb Sb Bk K : Nat) : Prop where
  sc : SBx w S b n p
  pw : Fb w Pb (Pfn Bk)
  sp : Fb w Sb (Sfn S Pb Sb)
  kp : Kp B b n w Bk K
theorem Lie.ext {B b n p : Nat} {w w' : World} {S Pb Sb Bk K : Nat} (h : Lie B b n p w S Pb Sb Bk K) (k : Ext w w') : Lie B b n p w' S Pb Sb Bk K := ⟨h.sc.ext k, h.pw.ext k, h.sp.ext k, h.kp.ext k⟩
theorem Lie.ne {T : TypeId} {B b n p : Nat} {w : World} {S Pb Sb Bk K g : Nat} {o : List Nat} (h : Lie B b n p w S Pb Sb Bk K) (hB : By T w g o) : S ≠ g ∧ Pb ≠ g ∧ Sb ≠ g := by
  refine ⟨fun e => ?_, fun e => ?_, fun e => ?_⟩
  · obtain ⟨x, hx⟩ := hB.int (p := ⟨S, 0, none⟩) e h.sc.2.1
    cases hx
  · obtain ⟨x, hx⟩ := hB.int (p := ⟨Pb, 0, none⟩) e h.pw.2
    cases hx
  · obtain ⟨x, hx⟩ := hB.int (p := ⟨Sb, 0, none⟩) e h.sp.2
    cases hx
theorem Lie.butBy {T : TypeId} {B b n p : Nat} {w w' : World} {S Pb Sb Bk K g : Nat} {o : List Nat} (h : Lie B b n p w S Pb Sb Bk K) (hB : By T w g o) (k : But g w w') : Lie B b n p w' S Pb Sb Bk K := by
  obtain ⟨h1, h2, h3⟩ := h.ne hB
  exact ⟨h.sc.but k h1, h.pw.but k h2, h.sp.but k h3, h.kp.butBy hB k⟩
theorem fb_keep {w w' : World} {Q g : Nat} {f : Value} (h : Q < w.heap.size ∧ w.cell? ⟨Q, 0, none⟩ = some f) (k : But g w w') (hne : Q ≠ g) : Q < w'.heap.size ∧ w'.cell? ⟨Q, 0, none⟩ = some f := Fb.but h k hne

theorem split_row {b n g h len off cap : Nat} {pre mid post : List Nat} (hpre : pre.length = off) (hmid : mid.length = len) (hl2 : len = 2 * h) : (mid.take h).length = h ∧ (mid.drop h).length = h ∧ pre ++ (mid ++ post) = pre ++ (mid.take h ++ (mid.drop h ++ post)) := by
  refine ⟨by rw [List.length_take]; omega, by rw [List.length_drop]; omega, ?_⟩
  rw [← List.append_assoc (mid.take h), List.take_append_drop]

set_option maxRecDepth 100000 in
set_option maxHeartbeats 4000000 in
theorem split_calls (B b n p S Pb Sb Bk K g cap0 : Nat) (hS : Sc b n p) (hcm : cap0 ≤ 1000000000) : ∀ (i : Nat), i < K → i ≤ 800 → (∀ j, j < i → (limbs (kp b n j)).length ≤ 398) → ∀ (w : World) (off len cap : Nat) (pre mid post : List Nat), By 5 w g (pre ++ (mid ++ post)) → pre.length = off → mid.length = len → 16 * n * 2 ^ i = len → len ≤ cap → cap ≤ cap0 → off + len ≤ 1000000000 →
    ∀ (v : Value) (a : Nat), Un w v a → (limbs a).length ≤ 1000 → a < kp b n i → Lie B b n p w S Pb Sb Bk K → B ≤ w.heap.size →
    Calls Tryz.prog 84 #[.slice (some ⟨g, off, none⟩) len cap, v, .int .i64 (i : Nat), .pointer (some ⟨S, 0, none⟩), .pointer (some ⟨Pb, 0, none⟩), .pointer (some ⟨Sb, 0, none⟩)] w fun e w' => e = .returned (.tuple #[]) ∧ By 5 w' g (pre ++ ((bdig b a len).map digB ++ post)) ∧ But g w w' := by
  intro i
  induction i with
  | zero =>
    intro hK _ _ w off len cap pre mid post hBy hpre hmid hlen hcap hcap0 _ v a hu hla ha hLie hB
    obtain ⟨s0, s1, s2, s3⟩ := id hLie.sc
    have hlen2 : 16 * n = len := by rw [Nat.pow_zero, Nat.mul_one] at hlen; exact hlen
    have ha2 : a < b ^ len := by
      have h9 : kp b n 0 = b ^ (16 * n) := by unfold kp; rw [Nat.pow_zero, Nat.mul_one]
      rw [h9, hlen2] at ha
      exact ha
    obtain ⟨A, l, c, rfl⟩ := U.sl hu
    have hW := Lib.hid (write_calls w b n p hS g off len cap pre mid post hBy hpre hmid hcap (by omega) (.slice A l c) a hu (by omega) ha2)
    clear hu hBy hpre hmid hlen hlen2 ha ha2 hLie
    go_enter Tryz.func84, Tryz.ntmps84
    go_wp2_with (go_at_call 85; refine hW.out.mono ?_; rintro e w3 ⟨rfl, hB3, hbut⟩; have HB3 := Lib.hid hB3; clear hB3)
    exact bodyPost_ret (v := .tuple #[]) (results_none rfl _ _ _) rfl ⟨rfl, HB3.out, hbut⟩
  | succ i ih =>
    intro hK hi8 hlim w off len cap pre mid post hBy hpre hmid hlen hcap hcap0 hoff v a hu hla ha hLie hB
    obtain ⟨h, hh⟩ : ∃ h, 16 * n * 2 ^ i = h := ⟨_, rfl⟩
    have hl2 : len = 2 * h := by rw [← hlen, ← hh, Nat.pow_succ, ← Nat.mul_assoc, Nat.mul_comm]
    have hh1 : 1 ≤ h := by rw [← hh]; have := hS.n1; have := Nat.two_pow_pos i; exact Nat.mul_pos (by omega) this
    have hsp := kp_split b n i a hS.b2 ha
    rw [hlen, hh] at hsp
    obtain ⟨q, hq⟩ : ∃ q, a / kp b n i = q := ⟨_, rfl⟩
    obtain ⟨r, hr⟩ : ∃ r, a % kp b n i = r := ⟨_, rfl⟩
    have hkp0 : kp b n i ≠ 0 := by have := Nat.pow_pos (n := 16 * n * 2 ^ i) (show 0 < b by have := hS.b2; omega); unfold kp; omega
    have hrk : r < kp b n i := by rw [← hr]; exact Nat.mod_lt _ (by omega)
    rw [hq, hr] at hsp
    have hql : (limbs q).length ≤ 1000 := Nat.le_trans (len_mono (by rw [← hq]; exact Nat.div_le_self _ _)) hla
    have hrl : (limbs r).length ≤ 1000 := Nat.le_trans (len_mono (by rw [← hr]; exact Nat.mod_le _ _)) hla
    obtain ⟨hm1, hm2, hm3⟩ := split_row (b := b) (n := n) (g := g) (off := off) (cap := cap) (post := post) hpre hmid hl2
    rw [hm3] at hBy
    have hih := fun w off cap pre mid post h1 h2 h3 h4 h5 h6 v a h7 h8 h9 h10 h11 => ih (by omega) (by omega) (fun j hj => hlim j (by omega)) w off h cap pre mid post h1 h2 h3 hh h4 h5 h6 v a h7 h8 h9 h10 h11
    have HIH := Lib.hid hih
    have hpc := power_calls w B b n Bk K i hLie.kp hB (by omega) (fun j hj => hlim j (by omega))
    have hdm := fun u hu2 => divmod_D w v u a (kp b n i) q r hu hu2 hla (Nat.le_trans (hlim i (by omega)) (by omega)) hkp0 hq hr
    have HEND : Hid (pre ++ (bdig b q h).map digB ++ ((bdig b r h).map digB ++ post) = pre ++ ((bdig b a len).map digB ++ post)) := by
      show _ = _
      rw [hsp.2, List.map_append, List.append_assoc, List.append_assoc]
    have hqk := Lib.hid hsp.1
    have hrk2 := Lib.hid hrk
    have hpl : Hid ((pre ++ (bdig b q h).map digB).length = off + h) := by show _ = _; rw [List.length_append, List.length_map, bdig_len, hpre]
    have hM1 := Lib.hid hm1
    have hM2 := Lib.hid hm2
    have hPR := Lib.hid hpre
    obtain ⟨A, l, c, rfl⟩ := U.sl hu
    have HPC := Lib.hid hpc
    have HDM := Lib.hid hdm
    obtain ⟨z, hz⟩ : ∃ z : Int, ((i + 1 : Nat) : Int) = z := ⟨_, rfl⟩
    have o1 : z - 1 = (i : Int) := by omega
    have o2 : ¬ (z = 0) := by omega
    rw [hz]
    have o3 : (len : Int).tdiv 2 = (h : Int) := by rw [Int.tdiv_eq_ediv_of_nonneg (Int.natCast_nonneg _)]; omega
    have o4 : (len : Int) / 2 = (h : Int) := by omega
    have o5 : (h : Int) ≤ (len : Int) := by omega
    have o6 : (h : Int) ≤ (cap : Int) := by omega
    have o7 : ¬ (cap = h) := by omega
    have o8 : len - h = h := by omega
    have o9 : (0 : Int) ≤ (h : Int) := by omega
    have o10 : IntKind.i64.wrap (h : Int) = (h : Int) := by rw [IntKind.wrap_i64]; omega
    have o11 : IntKind.i64.wrap (len : Int) = (len : Int) := by rw [IntKind.wrap_i64]; omega
    have o12 : IntKind.i64.wrap (i : Int) = (i : Int) := by rw [IntKind.wrap_i64]; omega
    have o13 : (h : Int) ≤ (h : Int) := Int.le_refl _
    have hcc : h ≤ cap ∧ cap ≤ cap0 ∧ h ≤ cap - h ∧ cap - h ≤ cap0 ∧ off + h ≤ 1000000000 ∧ off + h + h ≤ 1000000000 := by omega
    have HCC := Lib.hid hcc
    obtain ⟨b0, b1⟩ := id hLie.pw
    have hpwc := b1
    unfold Pfn at hpwc
    have HLie := Lib.hid hLie
    have HBy := Lib.hid hBy
    clear hz hih hpc hdm hq hr hsp hrk hm1 hm2 hm3 hpre hmid hlen hl2 hh hcc hBy hla ha hkp0 hlim b0 b1 hLie hS hu
    go_enter Tryz.func84, Tryz.ntmps84
    go_wp2_with (first
      | (go_at_call 114; refine HPC.out.mono ?_; rintro e w3 ⟨⟨u, rfl, hu3⟩, _, _, hw3⟩; obtain rfl := hw3 (by omega); obtain ⟨Au, lu, cu, rfl⟩ := U.sl hu3)
      | (go_at_call 50; refine (HDM.out _ hu3).mono ?_; rintro e w5 ⟨⟨x, y, rfl, hx, hy⟩, hE5⟩; obtain ⟨Ax, lx, cx, rfl⟩ := U.sl hx; obtain ⟨Ay, ly, cy, rfl⟩ := U.sl hy))
    have hB5 : By 5 w5.drew g _ := HBy.out.ext hE5.drew
    have hL5 : Lie B b n p w5.drew S Pb Sb Bk K := HLie.out.ext hE5.drew
    have hx5 : Un w5.drew (.slice Ax lx cx) q := hx
    have hBs : B ≤ w5.drew.heap.size := Nat.le_trans hB hE5.size
    have hS0 : Sb < w5.drew.heap.size ∧ w5.drew.cell? ⟨Sb, 0, none⟩ = some (.func (.func 84) #[] #[.pointer (some ⟨S, 0, none⟩), .pointer (some ⟨Pb, 0, none⟩), .pointer (some ⟨Sb, 0, none⟩)]) := hL5.sp
    have hSbg := (hL5.ne hB5).2.2
    have HC1 := Lib.hid (HIH.out w5.drew off cap pre _ _ hB5 hPR.out hM1.out HCC.out.1 HCC.out.2.1 HCC.out.2.2.2.2.1 _ q hx5 hql hqk.out hL5 hBs)
    have hy5 : Hid (Un w5.drew (.slice Ay ly cy) r) := hy
    have HB5 := Lib.hid hB5
    have HL5 := Lib.hid hL5
    have hbut5 := (But.refl g _).ext hE5.drew
    clear hB5 hL5 hx5 hx hy hu3 hw3 hpwc
    go_region_held3 (fun X => Sb < X.heap.size ∧ X.cell? ⟨Sb, 0, none⟩ = some (.func (.func 84) #[] #[.pointer (some ⟨S, 0, none⟩), .pointer (some ⟨Pb, 0, none⟩), .pointer (some ⟨Sb, 0, none⟩)]))
      (first
        | exact hS0
        | assumption
        | exact fb_keep (by assumption) (by assumption) (by assumption))
      (first
        | (go_at_call 84; ((with_reducible refine HC1.out.mono ?_); rintro e6 w6 ⟨rfl, hB6, hbut6⟩)))
    have hB6d : By 5 w6.drew g (pre ++ (bdig b q h).map digB ++ (mid.drop h ++ post)) := by rw [List.append_assoc]; exact hB6
    have hbd : But g w6 w6.drew := (But.refl g w6).drew
    have hL6 : Lie B b n p w6.drew S Pb Sb Bk K := (HL5.out.butBy HB5.out hbut6).ext (Ext.refl w6).drew
    have hy60 : Un w6 (.slice Ay ly cy) r := U.butBy hy5.out HB5.out hbut6
    have hy6 : Un w6.drew (.slice Ay ly cy) r := hy60
    have hB7 : B ≤ w6.drew.heap.size := Nat.le_trans hBs hbut6.size
    have hS1 : Sb < w6.drew.heap.size ∧ w6.drew.cell? ⟨Sb, 0, none⟩ = some (.func (.func 84) #[] #[.pointer (some ⟨S, 0, none⟩), .pointer (some ⟨Pb, 0, none⟩), .pointer (some ⟨Sb, 0, none⟩)]) := hL6.sp
    have HC2 := Lib.hid (HIH.out w6.drew (off + h) (cap - h) _ _ _ hB6d hpl.out hM2.out HCC.out.2.2.1 HCC.out.2.2.2.1 HCC.out.2.2.2.2.2 _ r hy6 hrl hrk2.out hL6 hB7)
    have hbut7 := Lib.hid ((hbut5.trans hbut6).trans hbd)
    clear HC1 hS0 hB6 hB6d hbd hL6 hy6 hy60 hbut6 hbut5 HIH
    go_wp2_with (fail)
    go_region_held3 (fun X => Sb < X.heap.size ∧ X.cell? ⟨Sb, 0, none⟩ = some (.func (.func 84) #[] #[.pointer (some ⟨S, 0, none⟩), .pointer (some ⟨Pb, 0, none⟩), .pointer (some ⟨Sb, 0, none⟩)]))
      (first
        | exact hS1
        | assumption
        | exact fb_keep (by assumption) (by assumption) (by assumption))
      (first
        | (go_at_call 84; ((with_reducible refine HC2.out.mono ?_); rintro e8 w8 ⟨rfl, hB8, hbut8⟩)))
    rw [HEND.out] at hB8
    have HB8 := Lib.hid hB8
    clear hB8
    (try go_wp2)
    exact bodyPost_end (results_none rfl _ _ _) rfl ⟨rfl, HB8.out, hbut7.out.trans hbut8⟩
end Go.Proofs.YtfkcdmbiihkiiaaGreatDoor
