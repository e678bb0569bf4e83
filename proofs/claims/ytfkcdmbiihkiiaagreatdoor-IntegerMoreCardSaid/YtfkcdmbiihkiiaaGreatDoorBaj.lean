/- The document's own Make and Made. -/
import Derived.Test.YtfkcdmbiihkiiaaGreatDoorBaf
import Derived.Test.YtfkcdmbiihkiiaaGreatDoorBah
import Derived.Test.YtfkcdmbiihkiiaaGreatDoorBai
import Derived.Deep.RegionHeld3

namespace Go.Proofs.YtfkcdmbiihkiiaaGreatDoor
open Go.RowKit
set_option linter.unusedVariables false
set_option maxHeartbeats 400000
set_option maxRecDepth 100000
attribute [local go_sem ↓] app_shut
attribute [local go_sem] run_append_tok

theorem rmake_calls (w : World) (v : Value) (xs : List Nat) (h : U w v xs) (hlen : xs.length ≤ 1000000000) :
    Calls Tryz.prog 59 #[v] w fun e w' => (∃ u, e = .returned u ∧ U w' u (limbs (val xs))) ∧ Below w.heap.size w w' := by
  have h' := h
  obtain ⟨A, c, rfl, ⟨hc, hm⟩, hx, hr⟩ := h
  go_enter Tryz.func59, Tryz.ntmps59
  go_wp2
  go_loop [3] (fun n => ∃ k : Nat, k ≤ xs.length ∧ n = .int .i64 k ∧ Hid (∀ j, k ≤ j → j < xs.length → lb xs j = 0)) (fun n => (intOf n).toNat)
  case atStart => exact ⟨xs.length, Nat.le_refl _, rfl, fun j h1 h2 => by omega⟩
  case round =>
    obtain ⟨k, hk, rfl, hz⟩ := hrel
    have hfin : (0 < k → lb xs (k - 1) ≠ 0) → ∃ v' w', (Builtin.append_ #[22, 22] 22 #[.slice (some ⟨w.heap.size, 0, none⟩) 0 0, .slice A k c]).run Tryz.prog (w.alloc (.cells #[] 56)) = .ok v' w' ∧ U w' v' (limbs (val xs)) ∧ Below w.heap.size w w' := fun h2 => by
      have hB : Below w.heap.size w (w.alloc (.cells #[] 56)) := (Below.refl _ _).alloc (Nat.le_refl _) _
      have hown : Own (w.alloc (.cells #[] 56)) w.heap.size (.slice (some ⟨w.heap.size, 0, none⟩) 0 0) [] := World.ownsRow_lit w #[] 0 (Nat.le_refl _) (Nat.zero_le _) rfl
      have hu : U w (.slice A k c) (xs.take k) := h'.take hk (by omega)
      have htl : (xs.take k).length = k := by simp; omega
      obtain ⟨v', w', hrun, ho, hg⟩ := run_append_U _ w.heap.size _ [] hown _ _ (hu.below hB) (by rw [htl]; simp; omega) hB.size
      refine ⟨v', w', hrun, ?_, hB.grown hg hB.size (fun j e => by cases e; exact Nat.le_refl _)⟩
      rw [strip_eq xs k hx hk hz.out h2]
      rw [List.nil_append] at ho
      exact ho.toU (fun x hx' => hx x (List.mem_of_mem_take hx')) (by rw [htl]; omega)
    rcases Nat.eq_zero_or_pos k with rfl | h0
    · obtain ⟨v', w', hrun, HU, HB⟩ := hfin (fun h => absurd h (by omega))
      obtain ⟨t1, t2, t3⟩ := app_tok hrun
      clear hfin hrun
      go_wp2
      go_ret
      exact ⟨⟨_, rfl, HU⟩, HB⟩
    · obtain ⟨ad, rfl, hb, hcell⟩ := hr (by omega)
      have hc1 := hcell (k - 1) (by omega)
      by_cases hx0 : lb xs (k - 1) = 0
      · have ht : ((((lb xs (k - 1) : Nat)) : Int) == 0) = true := by rw [hx0]; rfl
        have HX := Lib.hid hx0
        clear hx0 hfin
        go_wp2
        go_round
        case rel => exact ⟨k - 1, by omega, by go_num, fun j h1 h2 => by
          rcases Nat.lt_or_ge j k with h3 | h3
          · have : j = k - 1 := by omega
            subst this; exact HX.out
          · exact hz.out j h3 h2⟩
        case measure => simp [intOf]; omega
      · have ht : ((((lb xs (k - 1) : Nat)) : Int) == 0) = false := by rw [beq_eq_false_iff_ne]; omega
        obtain ⟨v', w', hrun, HU, HB⟩ := hfin (fun _ => hx0)
        obtain ⟨t1, t2, t3⟩ := app_tok hrun
        clear hfin hrun hx0
        go_wp2
        go_ret
        exact ⟨⟨_, rfl, HU⟩, HB⟩
end Go.Proofs.YtfkcdmbiihkiiaaGreatDoor
/- The document's own Made. -/
namespace Go.Proofs.YtfkcdmbiihkiiaaGreatDoor
open Go.RowKit
set_option linter.unusedVariables false
set_option maxHeartbeats 400000
set_option maxRecDepth 100000

/-- The number that the first k limbs are. -/
def cutN (xs : List Nat) (k : Nat) : Nat := val (xs.take k)
theorem cutN_len (xs : List Nat) (k : Nat) (hx : ∀ x ∈ xs, x < 4294967296) : (limbs (cutN xs k)).length ≤ k := by
  apply len_le_of_lt
  have := val_lt (xs.take k) (fun x h => hx x (List.mem_of_mem_take h))
  refine Nat.lt_of_lt_of_le this (Nat.pow_le_pow_right (by decide) ?_)
  rw [List.length_take]; omega

theorem made_calls (w : World) (v : Value) (xs : List Nat) (k : Int) (hk0 : 0 ≤ k) (hk1 : k ≤ 1000000000) (h : U w v xs) :
    Calls Tryz.prog 67 #[v, .int .i64 k] w fun e w' => (∃ u, e = .returned u ∧ Un w' u (cutN xs k.toNat)) ∧ Below w.heap.size w w' := by
  have h' := h
  obtain ⟨A, c, rfl, ⟨hc, hm⟩, hx, hr⟩ := h
  clear hr
  by_cases hl : (xs.length : Int) ≤ k
  · have hu := rmake_calls w _ xs h' (by omega)
    have HT : Hid (xs.take k.toNat = xs) := List.take_of_length_le (by omega)
    have hmin : min (xs.length : Int) k = xs.length := by omega
    go_enter Tryz.func67, Tryz.ntmps67
    go_wp2_with (go_at_call 59; refine hu.mono ?_; rintro e w' ⟨⟨z, rfl, hz⟩, hB⟩)
    go_ret
    exact ⟨⟨_, rfl, by rw [Un, cutN, HT.out]; exact hz⟩, hB⟩
  · obtain ⟨k, rfl⟩ := Int.eq_ofNat_of_zero_le hk0
    have hu := rmake_calls w _ _ (h'.take (k := k) (c' := c) (by omega) (by omega)) (by rw [List.length_take]; omega)
    have hmin : min (xs.length : Int) (k : Int) = k := by omega
    go_enter Tryz.func67, Tryz.ntmps67
    go_wp2_with (go_at_call 59; refine hu.mono ?_; rintro e w' ⟨⟨z, rfl, hz⟩, hB⟩)
    go_ret
    exact ⟨⟨_, rfl, by rw [Un, cutN, Int.toNat_natCast]; exact hz⟩, hB⟩
end Go.Proofs.YtfkcdmbiihkiiaaGreatDoor
/- The contracts in one form: whatever lay lies as it lay; the results as the callers ask for them. -/
namespace Go.Proofs.YtfkcdmbiihkiiaaGreatDoor
open Go.RowKit
set_option linter.unusedVariables false

theorem Un.alloc {w : World} {v : Value} {n : Nat} (h : Un w v n) (o : Obj) : Un (w.alloc o) v n := U.alloc h o
theorem U.un {w : World} {v : Value} {xs : List Nat} {n : Nat} (h : U w v xs) (e : limbs n = xs) : Un w v n := by rw [Un, e]; exact h
theorem lim {n : Nat} (xs : List Nat) (hv : val xs = n) (hx : ∀ x ∈ xs, x < 4294967296) (hl : xs ≠ [] → xs[xs.length - 1]?.getD 0 ≠ 0) : limbs n = xs := by rw [← hv]; exact limbs_val xs hx hl
theorem Un_nil (w : World) : Un w (.slice none 0 0) 0 := by rw [Un, limbs_zero]; exact U.nil_ _ _ _

theorem right_B (w : World) (v : Value) (xs : List Nat) (h : U w v xs) (b : Bool) (hb : rightB xs = b) :
    Calls Tryz.prog 56 #[v] w fun e w' => e = .returned (.bool b) ∧ Ext w w' :=
  (right_calls w v xs h).mono fun e w' ⟨he, hw⟩ => ⟨by rw [he, hb], by rw [← hw]; exact Ext.refl w⟩
theorem make_B (w : World) (v : Value) (xs : List Nat) (h : U w v xs) (n : Nat) (hn : val xs = n) :
    Calls Tryz.prog 58 #[v] w fun e w' => ∃ u, e = .returned u ∧ Un w' u n ∧ Ext w w' :=
  (make_calls w v xs h).mono fun e w' ⟨⟨u, he, hu⟩, hw⟩ => ⟨u, he, by rw [← hw, Un, ← hn]; exact hu, by rw [← hw]; exact Ext.refl w⟩
theorem of_B (w : World) (k : Int) (h0 : 0 ≤ k) (h1 : k < 18446744073709551616) (n : Nat) (hn : k.toNat = n) :
    Calls Tryz.prog 78 #[.int .u64 k] w fun e w' => ∃ u, e = .returned u ∧ Un w' u n ∧ Ext w w' := by
  subst hn
  have := nof_calls w k.toNat (by omega)
  rw [show ((k.toNat : Nat) : Int) = k by omega] at this
  exact this.mono fun e w' ⟨⟨u, he, hu⟩, hb⟩ => ⟨u, he, hu, hb⟩
theorem bits_B (w : World) (v : Value) (n : Nat) (h : Un w v n) (hl : (limbs n).length ≤ 1000000000) (k : Int) (hk : ((blen n : Nat) : Int) = k) :
    Calls Tryz.prog 120 #[v] w fun e w' => e = .returned (.int .i64 k) ∧ Ext w w' :=
  (bits_calls w v n h hl).mono fun e w' ⟨he, hw⟩ => ⟨by rw [he, hk], by rw [← hw]; exact Ext.refl w⟩
theorem cmp_B (w : World) (v u : Value) (n m : Nat) (h : Un w v n) (g : Un w u m) (k : Int) (hk : cmpI n m = k) :
    Calls Tryz.prog 46 #[v, u] w fun e w' => e = .returned (.int .i64 k) ∧ Ext w w' :=
  (cmp_calls w v u n m h g).mono fun e w' ⟨he, hw⟩ => ⟨by rw [he, hk], hw⟩
theorem add_B (w : World) (v u : Value) (n m : Nat) (h : Un w v n) (g : Un w u m) (hm : (limbs n).length ≤ 1000000000) (hm2 : (limbs m).length ≤ 1000000000) (s : Nat) (hs : n + m = s) :
    Calls Tryz.prog 51 #[v, u] w fun e w' => ∃ z, e = .returned z ∧ Un w' z s ∧ Ext w w' := by
  subst hs
  have := nadd_calls w v u _ _ h g hm hm2
  rw [val_limbs, val_limbs] at this
  exact this.mono fun e w' ⟨⟨z, he, hz⟩, hb⟩ => ⟨z, he, hz, hb⟩
theorem sub_B (w : World) (v u : Value) (n m : Nat) (h : Un w v n) (g : Un w u m) (hm : (limbs n).length ≤ 1000000000) (b : Bool) (hb : decide (m ≤ n) = b) (d : Nat) (hd : n - m = d) :
    Calls Tryz.prog 52 #[v, u] w fun e w' => ∃ z, e = .returned (.tuple #[z, .bool b]) ∧ Un w' z d ∧ Ext w w' := by
  subst hd hb
  exact (nsub_calls w v u n m h g hm).mono fun e w' ⟨⟨z, he, hz⟩, hb⟩ => ⟨z, he, hz, hb⟩
theorem shl_B (w : World) (v : Value) (n : Nat) (k : Int) (h : Un w v n) (hk0 : 0 ≤ k) (hk1 : k ≤ 1000000000) (hl : (limbs n).length ≤ 1000000000) (s : Nat) (hs : n * 2 ^ k.toNat = s) :
    Calls Tryz.prog 72 #[v, .int .i64 k] w fun e w' => ∃ u, e = .returned u ∧ Un w' u s ∧ Ext w w' := by
  subst hs
  exact (shl_calls w v n k hk0 hk1 h hl).mono fun e w' ⟨⟨u, he, hu⟩, hb⟩ => ⟨u, he, hu, hb⟩
theorem shr_B (w : World) (v : Value) (n : Nat) (k : Int) (h : Un w v n) (hk0 : 0 ≤ k) (hk1 : k ≤ 1000000000) (hl : (limbs n).length ≤ 1000000000) (s : Nat) (hs : n / 2 ^ k.toNat = s) :
    Calls Tryz.prog 74 #[v, .int .i64 k] w fun e w' => ∃ u, e = .returned u ∧ Un w' u s ∧ Ext w w' := by
  subst hs
  exact (shr_calls w v n k hk0 hk1 h hl).mono fun e w' ⟨⟨u, he, hu⟩, hb⟩ => ⟨u, he, hu, hb⟩
theorem made_B (w : World) (v : Value) (xs : List Nat) (k : Int) (h : U w v xs) (hk0 : 0 ≤ k) (hk1 : k ≤ 1000000000) (n : Nat) (hn : cutN xs k.toNat = n) :
    Calls Tryz.prog 67 #[v, .int .i64 k] w fun e w' => ∃ u, e = .returned u ∧ Un w' u n ∧ Ext w w' := by
  subst hn
  exact (made_calls w v xs k hk0 hk1 h).mono fun e w' ⟨⟨u, he, hu⟩, hb⟩ => ⟨u, he, hu, hb⟩
end Go.Proofs.YtfkcdmbiihkiiaaGreatDoor
/- Whole numbers: a sign and a size. -/
namespace Go.Proofs.YtfkcdmbiihkiiaaGreatDoor
open Go.RowKit
set_option linter.unusedVariables false
set_option maxHeartbeats 400000

/-- A value is this whole number. -/
def Zn (w : World) (v : Value) (z : Int) : Prop := ∃ A c, v = .agg #[.bool (decide (z < 0)), .slice A (limbs z.natAbs).length c] ∧ Un w (.slice A (limbs z.natAbs).length c) z.natAbs
theorem Zn.below {w w' : World} {v : Value} {z : Int} (h : Zn w v z) (k : Ext w w') : Zn w' v z := by
  obtain ⟨A, c, e, hu⟩ := h
  exact ⟨A, c, e, Un.below hu k⟩
/-- A number of a sign and a size. -/
def sg (b : Bool) (n : Nat) : Int := if b then -(n : Int) else (n : Int)
theorem sg_abs (b : Bool) (n : Nat) : (sg b n).natAbs = n := by unfold sg; split <;> omega
theorem sg_neg (b : Bool) (n : Nat) : decide (sg b n < 0) = (b && decide (0 < n)) := by
  unfold sg
  cases b
  · simp
  · simp
theorem sg_true (n : Nat) : sg true n = -(n : Int) := rfl
theorem sg_false (n : Nat) : sg false n = (n : Int) := rfl
theorem sg_of (z : Int) : sg (decide (z < 0)) z.natAbs = z := by
  unfold sg
  by_cases h : z < 0
  · rw [decide_eq_true h, if_pos rfl]; omega
  · rw [decide_eq_false h, if_neg (by decide)]; omega
theorem Zn.mk' {w : World} {A : Option Addr} {L c n : Nat} {z : Int} {b : Bool} (hu : Un w (.slice A L c) n) (hL : (limbs n).length = L) (hz : z.natAbs = n) (hs : decide (z < 0) = b) : Zn w (.agg #[.bool b, .slice A L c]) z := by
  subst hs hz hL
  exact ⟨A, c, rfl, hu⟩
theorem Zn.zero (w : World) (A : Option Addr) (c : Nat) : Zn w (.agg #[.bool false, .slice A 0 c]) 0 := by
  refine ⟨A, c, ?_, ?_⟩
  · show _ = Value.agg #[.bool false, .slice A (limbs 0).length c]
    rw [limbs_zero]; rfl
  · show Un w (.slice A (limbs 0).length c) 0
    rw [Un, limbs_zero]; exact U.nil_ _ _ _
/-- Taken apart: the sign as a Bool of its own, the length as a number of its own. -/
theorem Zn.open {w : World} {v : Value} {z : Int} (h : Zn w v z) : ∃ (b : Bool) (A : Option Addr) (L c n : Nat), v = .agg #[.bool b, .slice A L c] ∧ Un w (.slice A L c) n ∧ (limbs n).length = L ∧ z = sg b n ∧ (b = true → n ≠ 0) ∧ z.natAbs = n ∧ decide (z < 0) = b := by
  obtain ⟨A, c, e, hu⟩ := h
  refine ⟨decide (z < 0), A, _, c, z.natAbs, e, hu, rfl, (sg_of z).symm, fun hb => ?_, rfl, rfl⟩
  have := of_decide_eq_true hb
  omega
/-- Whatever lies in a struct of this kind. -/
def Ri (w : World) (v : Value) (b : Bool) (xs : List Nat) : Prop := ∃ A c, v = .agg #[.bool b, .slice A xs.length c] ∧ U w (.slice A xs.length c) xs
theorem Ri.below {w w' : World} {v : Value} {b : Bool} {xs : List Nat} (h : Ri w v b xs) (k : Ext w w') : Ri w' v b xs := by
  obtain ⟨A, c, e, hu⟩ := h
  exact ⟨A, c, e, U.below hu k⟩
theorem Zn.ri {w : World} {v : Value} {z : Int} (h : Zn w v z) : Ri w v (decide (z < 0)) (limbs z.natAbs) := by
  obtain ⟨A, c, e, hu⟩ := h
  exact ⟨A, c, e, hu⟩

theorem U.iput {w : World} {v : Value} {xs : List Nat} (h : U w v xs) {p : Addr} {old : Value} (hp : w.cell? p = some old) (ho : ∀ k n, old ≠ .int k n) (x : Value) : U (w.setCell p x) v xs := by
  obtain ⟨A, c, rfl, hc, hx, hr⟩ := h
  refine ⟨A, c, rfl, hc, hx, fun h0 => ?_⟩
  obtain ⟨ad, hA, hb, hcell⟩ := hr h0
  refine ⟨ad, hA, by simpa using hb, fun j hj => ?_⟩
  have h1 := hcell j hj
  rw [World.cell?_setCell_other]
  · exact h1
  · intro e
    rw [e, h1] at hp
    exact ho _ _ (Option.some.inj hp).symm
/-- A struct of this kind in its block. -/
def Ib (w : World) (N : Nat) (b : Bool) (m : Value) : Prop := N < w.heap.size ∧ w.cell? ⟨N, 0, none⟩ = some (.bool b) ∧ w.cell? ⟨N, 1, none⟩ = some m ∧ w.frozen? ⟨N, 0, none⟩ = false ∧ w.frozen? ⟨N, 1, none⟩ = false
theorem Ib.ext {w w' : World} {N : Nat} {b : Bool} {m : Value} (h : Ib w N b m) (k : Ext w w') : Ib w' N b m := by
  obtain ⟨h0, h1, h2, h3, h4⟩ := h
  exact ⟨Nat.lt_of_lt_of_le h0 k.size, (k.cell (p := ⟨N, 0, none⟩) h0).trans h1, (k.cell (p := ⟨N, 1, none⟩) h0).trans h2, (k.frozen (p := ⟨N, 0, none⟩) h0).trans h3, (k.frozen (p := ⟨N, 1, none⟩) h0).trans h4⟩
theorem Ib.new (w : World) (b : Bool) (m : Value) (T : TypeId) : Ib (w.alloc (.cells #[.bool b, m] T)) w.heap.size b m := by
  refine ⟨by simp, ?_, ?_, ?_, ?_⟩ <;> go_simp
theorem Ib.new2 (w : World) (o : Obj) (b : Bool) (m : Value) (T : TypeId) : Ib ((w.alloc o).alloc (.cells #[.bool b, m] T)) (w.heap.size + 1) b m := by
  have := Ib.new (w.alloc o) b m T
  simpa using this
theorem Ib.new3 (w : World) (o o2 : Obj) (b : Bool) (m : Value) (T : TypeId) : Ib (((w.alloc o).alloc o2).alloc (.cells #[.bool b, m] T)) (w.heap.size + 1 + 1) b m := by
  have := Ib.new2 (w.alloc o) o2 b m T
  simpa using this
/-- The answer is written into its block: what else lies there stays. -/
theorem Un.put2 {w : World} {v : Value} {n N : Nat} {b : Bool} {m : Value} (h : Un w v n) (hI : Ib w N b m) (hm : ∀ k x, m ≠ .int k x) (x y : Value) : Un ((w.setCell ⟨N, 0, none⟩ x).setCell ⟨N, 1, none⟩ y) v n := by
  obtain ⟨h0, h1, h2, h3, h4⟩ := hI
  refine U.iput (U.iput h h1 (fun _ _ e => by cases e) x) (old := m) ?_ hm y
  rw [World.cell?_setCell_other _ _ _ _ (fun e => by cases e)]
  exact h2
theorem Zn.put2 {w : World} {v : Value} {z : Int} {N : Nat} {b : Bool} {m : Value} (h : Zn w v z) (hI : Ib w N b m) (hm : ∀ k x, m ≠ .int k x) (x y : Value) : Zn ((w.setCell ⟨N, 0, none⟩ x).setCell ⟨N, 1, none⟩ y) v z := by
  obtain ⟨A, c, e, hu⟩ := h
  exact ⟨A, c, e, Un.put2 hu hI hm x y⟩
theorem Ext.put2 {w0 w : World} {N : Nat} (h : Ext w0 w) (hN : w0.heap.size ≤ N) (x y : Value) : Ext w0 ((w.setCell ⟨N, 0, none⟩ x).setCell ⟨N, 1, none⟩ y) := (h.setCell hN _).setCell hN _
theorem slice_no_int (A : Option Addr) (l c : Nat) : ∀ k n, Value.slice A l c ≠ .int k n := fun _ _ e => by cases e

theorem Un.sh {w : World} {v : Value} {n : Nat} (h : Un w v n) : ∃ A c, v = .slice A (limbs n).length c ∧ (limbs n).length ≤ c := by
  obtain ⟨A, c, e, hc, _⟩ := h
  exact ⟨A, c, e, hc.1⟩
/-- A length that is 0, or is not. -/
theorem len_cases (n : Nat) : (n = 0 ∧ (limbs n).length = 0) ∨ (n ≠ 0 ∧ 0 < (limbs n).length) := by
  by_cases h : n = 0
  · subst h; exact .inl ⟨rfl, by rw [limbs_zero]; rfl⟩
  · exact .inr ⟨h, by rw [limbs_pos h]; simp⟩

set_option maxRecDepth 100000 in
theorem zmake (w : World) (b : Bool) (v : Value) (xs : List Nat) (hu : U w v xs) (n : Nat) (hn : val xs = n) (z : Int) (hz : sg b n = z) :
    Calls Tryz.prog 21 #[.bool b, v] w fun e w' => ∃ u, e = .returned u ∧ Zn w' u z ∧ Ext w w' := by
  have hM := Lib.hid (fun W h => make_B W v xs h n hn)
  have hE0 := (Ext.refl w).alloc (.cells #[.bool false, .slice none 0 0] 24)
  have hI0 := Ib.new w false (.slice none 0 0) 24
  have hu0 := hu.below hE0
  have hza : z.natAbs = n := by rw [← hz, sg_abs]
  have hzn : decide (z < 0) = (b && decide (0 < n)) := by rw [← hz, sg_neg]
  obtain ⟨L, hL⟩ : ∃ L, (limbs n).length = L := ⟨_, rfl⟩
  have hc := len_cases n
  rw [hL] at hc
  have HL := Lib.hid hL
  have HZ := Lib.hid (And.intro hza hzn)
  obtain ⟨A0, c0, rfl, -⟩ := id hu
  obtain ⟨l0, hl0⟩ : ∃ l, xs.length = l := ⟨_, rfl⟩
  rw [hl0] at hM hu0 ⊢
  clear hl0
  clear hz hn hL hza hzn
  rcases hc with ⟨h1, rfl⟩ | ⟨h1, h2⟩
  · subst h1
    cases b
    all_goals (
      go_enter Tryz.func21, Tryz.ntmps21
      go_wp2_with (go_at_call 58; refine (hM.out _ hu0).mono ?_; rintro e w2 ⟨u, rfl, hu2, hE2⟩; obtain ⟨A, c, rfl, hc⟩ := Un.sh hu2; rw [HL.out] at hu2 ⊢; clear hc; have hI2 := hI0.ext hE2; obtain ⟨i0, i1, i2, i3, i4⟩ := id hI2)
      (try simp only [Exit.inBlock, Exit.then])
      refine bodyPost_ret (v := .agg #[.bool false, .slice A 0 c]) (show (results _ _).run _ _ = _ from ?_) rfl ⟨_, rfl, Zn.mk' (Un.put2 hu2 hI2 (slice_no_int _ _ _) _ _) HL.out HZ.out.1 HZ.out.2, (hE0.below hE2).put2 (Nat.le_refl _) _ _⟩
      simp only [results]
      go_simp)
  · have h3 : (0 : Int) < (L : Int) := by omega
    have hb0 : Hid (decide (0 < n) = true) := decide_eq_true (by omega)
    cases b
    case' false => have HS : Hid (decide (z < 0) = false) := by show _ = _; rw [HZ.out.2]; rfl
    case' true => have HS : Hid (decide (z < 0) = true) := by show _ = _; rw [HZ.out.2, hb0.out]; rfl
    all_goals (
      go_enter Tryz.func21, Tryz.ntmps21
      go_wp2_with (go_at_call 58; refine (hM.out _ hu0).mono ?_; rintro e w2 ⟨u, rfl, hu2, hE2⟩; obtain ⟨A, c, rfl, hc⟩ := Un.sh hu2; rw [HL.out] at hu2 ⊢; clear hc; have hI2 := hI0.ext hE2; obtain ⟨i0, i1, i2, i3, i4⟩ := id hI2)
      (try simp only [Exit.inBlock, Exit.then])
      refine bodyPost_ret (v := .agg #[.bool _, .slice A L c]) (show (results _ _).run _ _ = _ from ?_) rfl ⟨_, rfl, Zn.mk' (Un.put2 hu2 hI2 (slice_no_int _ _ _) _ _) HL.out HZ.out.1 HS.out, (hE0.below hE2).put2 (Nat.le_refl _) _ _⟩
      simp only [results]
      go_simp)
end Go.Proofs.YtfkcdmbiihkiiaaGreatDoor
/- Whole numbers: signs, and what is turned about. -/
namespace Go.Proofs.YtfkcdmbiihkiiaaGreatDoor
open Go.RowKit
set_option linter.unusedVariables false
set_option maxHeartbeats 400000

theorem Zn.sh {w : World} {v : Value} {z : Int} (h : Zn w v z) : ∃ b A L c, v = .agg #[.bool b, .slice A L c] := by
  obtain ⟨A, c, e, _⟩ := h
  exact ⟨_, A, _, c, e⟩
theorem sg_not (b : Bool) (n : Nat) : sg (!b) n = -(sg b n) := by cases b <;> simp [sg]

set_option maxRecDepth 100000 in
theorem zneg (w : World) (v : Value) (z : Int) (h : Zn w v z) (y : Int) (hy : -z = y) :
    Calls Tryz.prog 27 #[v] w fun e w' => ∃ u, e = .returned u ∧ Zn w' u y ∧ Ext w w' := by
  obtain ⟨b, A, L, c, n, rfl, hu, hL, hz, hb, hza, hzn⟩ := h.open
  have hE0 := ((Ext.refl w).alloc (.cells #[.bool b, .slice A L c] 24)).alloc (.cells #[.bool false, .slice none 0 0] 24)
  have hI0 := Ib.new2 w (.cells #[.bool b, .slice A L c] 24) false (.slice none 0 0) 24
  have hP0 := (Ib.new w b (.slice A L c) 24).ext ((Ext.refl _).alloc (.cells #[.bool false, .slice none 0 0] 24))
  have hu0 := hu.below hE0
  have hM := Lib.hid (fun W h => zmake W (!b) (.slice A L c) (limbs n) h n (val_limbs n) y (by rw [sg_not, ← hz]; exact hy))
  obtain ⟨p0, p1, p2, p3, p4⟩ := id hP0
  clear hz hb hza hzn hL hy h
  go_enter Tryz.func27, Tryz.ntmps27
  go_wp2_with (go_at_call 21; refine (hM.out _ hu0).mono ?_; rintro e w2 ⟨u, rfl, hz2, hE2⟩; obtain ⟨b2, A2, L2, c2, rfl⟩ := hz2.sh; have hI2 := hI0.ext hE2; obtain ⟨i0, i1, i2, i3, i4⟩ := id hI2)
  (try simp only [Exit.inBlock, Exit.then])
  refine bodyPost_ret (v := .agg #[.bool b2, .slice A2 L2 c2]) (show (results _ _).run _ _ = _ from ?_) rfl ⟨_, rfl, hz2.put2 hI2 (slice_no_int _ _ _) _ _, (hE0.below hE2).put2 (by simp) _ _⟩
  simp only [results]
  go_simp

theorem sign_sg (b : Bool) (n : Nat) (hb : b = true → n ≠ 0) : Int.sign (sg b n) = if n = 0 then 0 else if b then -1 else 1 := by
  cases b
  · rw [sg_false]
    by_cases h : n = 0
    · subst h; rfl
    · rw [if_neg h, if_neg (by decide)]; exact Int.sign_eq_one_of_pos (by omega)
  · rw [sg_true]
    have := hb rfl
    rw [if_neg this, if_pos rfl]; exact Int.sign_eq_neg_one_of_neg (by omega)

set_option maxRecDepth 100000 in
theorem zsign (w : World) (v : Value) (z : Int) (h : Zn w v z) (k : Int) (hk : Int.sign z = k) :
    Calls Tryz.prog 25 #[v] w fun e w' => e = .returned (.int .i64 k) ∧ Ext w w' := by
  obtain ⟨b, A, L, c, n, rfl, hu, hL, hz, hb, hza, hzn⟩ := h.open
  have hE0 := (Ext.refl w).alloc (.cells #[.bool b, .slice A L c] 24)
  have hk2 := sign_sg b n hb
  rw [← hz, hk] at hk2
  have hcs := len_cases n
  rw [hL] at hcs
  clear hz hza hzn hL hk h
  rcases hcs with ⟨h1, rfl⟩ | ⟨h1, h2⟩
  · rw [if_pos h1] at hk2
    subst hk2
    clear hb h1
    go_enter Tryz.func25, Tryz.ntmps25
    go_wp2
    go_ret
    exact ⟨rfl, hE0⟩
  · rw [if_neg h1] at hk2
    have h3 : ((L : Int) == 0) = false := by rw [beq_eq_false_iff_ne]; omega
    have h4 : ¬ (L = 0) := by omega
    cases b
    case' false => rw [if_neg (by decide)] at hk2
    case' true => rw [if_pos rfl] at hk2
    all_goals (
      subst hk2
      clear hb h1
      go_enter Tryz.func25, Tryz.ntmps25
      go_wp2
      go_ret
      exact ⟨rfl, hE0⟩)

set_option maxRecDepth 100000 in
theorem zright (w : World) (v : Value) (b : Bool) (xs : List Nat) (h : Ri w v b xs) (r : Bool) (hr : (rightB xs && !(b && decide (xs.length = 0))) = r) :
    Calls Tryz.prog 18 #[v] w fun e w' => e = .returned (.bool r) ∧ Ext w w' := by
  obtain ⟨A, c, rfl, hu⟩ := h
  have hE0 := (Ext.refl w).alloc (.cells #[.bool b, .slice A xs.length c] 24)
  have hP0 := Ib.new w b (.slice A xs.length c) 24
  have hu0 := hu.below hE0
  obtain ⟨q, hq⟩ : ∃ q, rightB xs = q := ⟨_, rfl⟩
  have hR := Lib.hid (right_B _ _ xs hu0 q hq)
  rw [hq] at hr
  obtain ⟨L, hL⟩ : ∃ L, xs.length = L := ⟨_, rfl⟩
  rw [hL] at hr hR hP0 hE0 ⊢
  clear hq hL hu0 hu
  by_cases h0 : L = 0
  · subst h0
    cases b <;> cases q
    all_goals (
      subst hr
      go_enter Tryz.func18, Tryz.ntmps18
      go_wp2_with (go_at_call 56; refine hR.out.mono ?_; rintro e w2 ⟨rfl, hE2⟩; obtain ⟨p0, p1, p2, p3, p4⟩ := hP0.ext hE2)
      go_ret
      exact ⟨by first | rfl | simp, hE0.below hE2⟩)
  · have h3 : ((L : Int) == 0) = false := by rw [beq_eq_false_iff_ne]; omega
    rw [decide_eq_false h0] at hr
    cases b <;> cases q
    all_goals (
      subst hr
      go_enter Tryz.func18, Tryz.ntmps18
      go_wp2_with (go_at_call 56; refine hR.out.mono ?_; rintro e w2 ⟨rfl, hE2⟩; obtain ⟨p0, p1, p2, p3, p4⟩ := hP0.ext hE2)
      go_ret
      exact ⟨by first | rfl | simp, hE0.below hE2⟩)

set_option maxRecDepth 100000 in
theorem zof (w : World) (z : Int) (h1 : -9223372036854775808 ≤ z) (h2 : z ≤ 9223372036854775807) :
    Calls Tryz.prog 44 #[.int .i64 z] w fun e w' => ∃ u, e = .returned u ∧ Zn w' u z ∧ Ext w w' := by
  have hE0 := (Ext.refl w).alloc (.cells #[.bool false, .slice none 0 0] 24)
  have hI0 := Ib.new w false (.slice none 0 0) 24
  by_cases h0 : z < 0
  · obtain ⟨m, hm⟩ : ∃ m : Nat, -z = (m : Int) := ⟨(-z).toNat, by omega⟩
    obtain ⟨k, hk⟩ : ∃ k : Nat, z + 18446744073709551616 = (k : Int) := ⟨(z + 18446744073709551616).toNat, by omega⟩
    have o1 : z % 18446744073709551616 = (k : Int) := by omega
    have o2 : IntKind.u64.wrap z = (k : Int) := by rw [IntKind.wrap_u64]; omega
    have o3 : (-(k : Int)) % 18446744073709551616 = (m : Int) := by omega
    have o4 : IntKind.u64.wrap (-(k : Int)) = (m : Int) := by rw [IntKind.wrap_u64]; omega
    have hM := Lib.hid (fun W v h => zmake W true v (limbs m) h m (val_limbs m) z (by rw [sg_true]; omega))
    have hOf := Lib.hid (fun W => of_B W (m : Int) (by omega) (by omega) m (by simp))
    clear hm hk
    go_enter Tryz.func44, Tryz.ntmps44
    go_wp2_with (first
      | (go_at_call 78; refine (hOf.out _).mono ?_; rintro e w2 ⟨u, rfl, hu2, hE2⟩; obtain ⟨A2, c2, rfl, hc2⟩ := Un.sh hu2)
      | (go_at_call 21; refine (hM.out _ _ hu2).mono ?_; rintro e w3 ⟨u, rfl, hz3, hE3⟩; obtain ⟨b3, A3, L3, c3, rfl⟩ := hz3.sh; have hI3 := (hI0.ext hE2).ext hE3; obtain ⟨i0, i1, i2, i3, i4⟩ := id hI3))
    (try simp only [Exit.inBlock, Exit.then])
    refine bodyPost_ret (v := .agg #[.bool b3, .slice A3 L3 c3]) (show (results _ _).run _ _ = _ from ?_) rfl ⟨_, rfl, hz3.put2 hI3 (slice_no_int _ _ _) _ _, ((hE0.below hE2).below hE3).put2 (by simp) _ _⟩
    simp only [results]
    go_simp
  · obtain ⟨m, rfl⟩ := Int.eq_ofNat_of_zero_le (show 0 ≤ z by omega)
    have o1 : (m : Int) % 18446744073709551616 = (m : Int) := by omega
    have o2 : IntKind.u64.wrap (m : Int) = (m : Int) := by rw [IntKind.wrap_u64]; omega
    have hM := Lib.hid (fun W v h => zmake W false v (limbs m) h m (val_limbs m) (m : Int) rfl)
    have hOf := Lib.hid (fun W => of_B W (m : Int) (by omega) (by omega) m (by simp))
    go_enter Tryz.func44, Tryz.ntmps44
    go_wp2_with (first
      | (go_at_call 78; refine (hOf.out _).mono ?_; rintro e w2 ⟨u, rfl, hu2, hE2⟩; obtain ⟨A2, c2, rfl, hc2⟩ := Un.sh hu2)
      | (go_at_call 21; refine (hM.out _ _ hu2).mono ?_; rintro e w3 ⟨u, rfl, hz3, hE3⟩; obtain ⟨b3, A3, L3, c3, rfl⟩ := hz3.sh; have hI3 := (hI0.ext hE2).ext hE3; obtain ⟨i0, i1, i2, i3, i4⟩ := id hI3))
    (try simp only [Exit.inBlock, Exit.then])
    refine bodyPost_ret (v := .agg #[.bool b3, .slice A3 L3 c3]) (show (results _ _).run _ _ = _ from ?_) rfl ⟨_, rfl, hz3.put2 hI3 (slice_no_int _ _ _) _ _, ((hE0.below hE2).below hE3).put2 (by simp) _ _⟩
    simp only [results]
    go_simp
end Go.Proofs.YtfkcdmbiihkiiaaGreatDoor
/- What is kept while numbers in their blocks are read, and an answer is made. -/
namespace Go.Proofs.YtfkcdmbiihkiiaaGreatDoor
open Go.RowKit
set_option linter.unusedVariables false
set_option maxHeartbeats 400000

/-- One number in its block, an answer's block behind it. -/
theorem keepI1 {w X Y : World} {p : Bool} {mp : Value} (h : (w.heap.size + 1 < X.heap.size ∧ X.cell? ⟨w.heap.size, 0, none⟩ = some (.bool p) ∧ X.cell? ⟨w.heap.size, 1, none⟩ = some mp) ∧ Ext w X) (k : Ext X Y) : (w.heap.size + 1 < Y.heap.size ∧ Y.cell? ⟨w.heap.size, 0, none⟩ = some (.bool p) ∧ Y.cell? ⟨w.heap.size, 1, none⟩ = some mp) ∧ Ext w Y := by
  obtain ⟨⟨h0, h1, h2⟩, hx⟩ := h
  have hs := k.size
  exact ⟨⟨by omega, (k.cell (p := ⟨w.heap.size, 0, none⟩) (by show w.heap.size < _; omega)).trans h1, (k.cell (p := ⟨w.heap.size, 1, none⟩) (by show w.heap.size < _; omega)).trans h2⟩, hx.below k⟩
theorem keepS1 {w X : World} {p : Bool} {mp x y : Value} (h : (w.heap.size + 1 < X.heap.size ∧ X.cell? ⟨w.heap.size, 0, none⟩ = some (.bool p) ∧ X.cell? ⟨w.heap.size, 1, none⟩ = some mp) ∧ Ext w X) : (w.heap.size + 1 < ((X.setCell ⟨w.heap.size + 1, 0, none⟩ x).setCell ⟨w.heap.size + 1, 1, none⟩ y).heap.size ∧ ((X.setCell ⟨w.heap.size + 1, 0, none⟩ x).setCell ⟨w.heap.size + 1, 1, none⟩ y).cell? ⟨w.heap.size, 0, none⟩ = some (.bool p) ∧ ((X.setCell ⟨w.heap.size + 1, 0, none⟩ x).setCell ⟨w.heap.size + 1, 1, none⟩ y).cell? ⟨w.heap.size, 1, none⟩ = some mp) ∧ Ext w ((X.setCell ⟨w.heap.size + 1, 0, none⟩ x).setCell ⟨w.heap.size + 1, 1, none⟩ y) := by
  obtain ⟨⟨h0, h1, h2⟩, hx⟩ := h
  have hc : ∀ a : Addr, a.block ≠ w.heap.size + 1 → ((X.setCell ⟨w.heap.size + 1, 0, none⟩ x).setCell ⟨w.heap.size + 1, 1, none⟩ y).cell? a = X.cell? a := fun a ha => by
    rw [World.cell?_setCell_other _ _ _ _ (fun e => ha (by rw [← e])), World.cell?_setCell_other _ _ _ _ (fun e => ha (by rw [← e]))]
  refine ⟨⟨by simpa using h0, ?_, ?_⟩, hx.put2 (by omega) _ _⟩
  · rw [hc _ (by show w.heap.size ≠ _; omega)]; exact h1
  · rw [hc _ (by show w.heap.size ≠ _; omega)]; exact h2
/-- Two, and an answer. -/
theorem keepI2 {w X Y : World} {p q : Bool} {mp mq : Value} (h : (w.heap.size + 1 + 1 < X.heap.size ∧ X.cell? ⟨w.heap.size, 0, none⟩ = some (.bool p) ∧ X.cell? ⟨w.heap.size, 1, none⟩ = some mp ∧ X.cell? ⟨w.heap.size + 1, 0, none⟩ = some (.bool q) ∧ X.cell? ⟨w.heap.size + 1, 1, none⟩ = some mq) ∧ Ext w X) (k : Ext X Y) : (w.heap.size + 1 + 1 < Y.heap.size ∧ Y.cell? ⟨w.heap.size, 0, none⟩ = some (.bool p) ∧ Y.cell? ⟨w.heap.size, 1, none⟩ = some mp ∧ Y.cell? ⟨w.heap.size + 1, 0, none⟩ = some (.bool q) ∧ Y.cell? ⟨w.heap.size + 1, 1, none⟩ = some mq) ∧ Ext w Y := by
  obtain ⟨⟨h0, h1, h2, h3, h4⟩, hx⟩ := h
  have hs := k.size
  exact ⟨⟨by omega, (k.cell (p := ⟨w.heap.size, 0, none⟩) (by show w.heap.size < _; omega)).trans h1, (k.cell (p := ⟨w.heap.size, 1, none⟩) (by show w.heap.size < _; omega)).trans h2, (k.cell (p := ⟨w.heap.size + 1, 0, none⟩) (by show w.heap.size + 1 < _; omega)).trans h3, (k.cell (p := ⟨w.heap.size + 1, 1, none⟩) (by show w.heap.size + 1 < _; omega)).trans h4⟩, hx.below k⟩
theorem keepS2 {w X : World} {p q : Bool} {mp mq x y : Value} (h : (w.heap.size + 1 + 1 < X.heap.size ∧ X.cell? ⟨w.heap.size, 0, none⟩ = some (.bool p) ∧ X.cell? ⟨w.heap.size, 1, none⟩ = some mp ∧ X.cell? ⟨w.heap.size + 1, 0, none⟩ = some (.bool q) ∧ X.cell? ⟨w.heap.size + 1, 1, none⟩ = some mq) ∧ Ext w X) : (w.heap.size + 1 + 1 < ((X.setCell ⟨w.heap.size + 1 + 1, 0, none⟩ x).setCell ⟨w.heap.size + 1 + 1, 1, none⟩ y).heap.size ∧ ((X.setCell ⟨w.heap.size + 1 + 1, 0, none⟩ x).setCell ⟨w.heap.size + 1 + 1, 1, none⟩ y).cell? ⟨w.heap.size, 0, none⟩ = some (.bool p) ∧ ((X.setCell ⟨w.heap.size + 1 + 1, 0, none⟩ x).setCell ⟨w.heap.size + 1 + 1, 1, none⟩ y).cell? ⟨w.heap.size, 1, none⟩ = some mp ∧ ((X.setCell ⟨w.heap.size + 1 + 1, 0, none⟩ x).setCell ⟨w.heap.size + 1 + 1, 1, none⟩ y).cell? ⟨w.heap.size + 1, 0, none⟩ = some (.bool q) ∧ ((X.setCell ⟨w.heap.size + 1 + 1, 0, none⟩ x).setCell ⟨w.heap.size + 1 + 1, 1, none⟩ y).cell? ⟨w.heap.size + 1, 1, none⟩ = some mq) ∧ Ext w ((X.setCell ⟨w.heap.size + 1 + 1, 0, none⟩ x).setCell ⟨w.heap.size + 1 + 1, 1, none⟩ y) := by
  obtain ⟨⟨h0, h1, h2, h3, h4⟩, hx⟩ := h
  have hc : ∀ a : Addr, a.block ≠ w.heap.size + 1 + 1 → ((X.setCell ⟨w.heap.size + 1 + 1, 0, none⟩ x).setCell ⟨w.heap.size + 1 + 1, 1, none⟩ y).cell? a = X.cell? a := fun a ha => by
    rw [World.cell?_setCell_other _ _ _ _ (fun e => ha (by rw [← e])), World.cell?_setCell_other _ _ _ _ (fun e => ha (by rw [← e]))]
  refine ⟨⟨by simpa using h0, ?_, ?_, ?_, ?_⟩, hx.put2 (by omega) _ _⟩
  · rw [hc _ (by show w.heap.size ≠ _; omega)]; exact h1
  · rw [hc _ (by show w.heap.size ≠ _; omega)]; exact h2
  · rw [hc _ (by show w.heap.size + 1 ≠ _; omega)]; exact h3
  · rw [hc _ (by show w.heap.size + 1 ≠ _; omega)]; exact h4
/-- Two, and no answer. -/
theorem keepI2n {w X Y : World} {p q : Bool} {mp mq : Value} (h : (w.heap.size + 1 < X.heap.size ∧ X.cell? ⟨w.heap.size, 0, none⟩ = some (.bool p) ∧ X.cell? ⟨w.heap.size, 1, none⟩ = some mp ∧ X.cell? ⟨w.heap.size + 1, 0, none⟩ = some (.bool q) ∧ X.cell? ⟨w.heap.size + 1, 1, none⟩ = some mq) ∧ Ext w X) (k : Ext X Y) : (w.heap.size + 1 < Y.heap.size ∧ Y.cell? ⟨w.heap.size, 0, none⟩ = some (.bool p) ∧ Y.cell? ⟨w.heap.size, 1, none⟩ = some mp ∧ Y.cell? ⟨w.heap.size + 1, 0, none⟩ = some (.bool q) ∧ Y.cell? ⟨w.heap.size + 1, 1, none⟩ = some mq) ∧ Ext w Y := by
  obtain ⟨⟨h0, h1, h2, h3, h4⟩, hx⟩ := h
  have hs := k.size
  exact ⟨⟨by omega, (k.cell (p := ⟨w.heap.size, 0, none⟩) (by show w.heap.size < _; omega)).trans h1, (k.cell (p := ⟨w.heap.size, 1, none⟩) (by show w.heap.size < _; omega)).trans h2, (k.cell (p := ⟨w.heap.size + 1, 0, none⟩) (by show w.heap.size + 1 < _; omega)).trans h3, (k.cell (p := ⟨w.heap.size + 1, 1, none⟩) (by show w.heap.size + 1 < _; omega)).trans h4⟩, hx.below k⟩
/-- Two, and two answers. -/
theorem keepI22 {w X Y : World} {p q : Bool} {mp mq : Value} (h : (w.heap.size + 1 + 1 + 1 < X.heap.size ∧ X.cell? ⟨w.heap.size, 0, none⟩ = some (.bool p) ∧ X.cell? ⟨w.heap.size, 1, none⟩ = some mp ∧ X.cell? ⟨w.heap.size + 1, 0, none⟩ = some (.bool q) ∧ X.cell? ⟨w.heap.size + 1, 1, none⟩ = some mq) ∧ Ext w X) (k : Ext X Y) : (w.heap.size + 1 + 1 + 1 < Y.heap.size ∧ Y.cell? ⟨w.heap.size, 0, none⟩ = some (.bool p) ∧ Y.cell? ⟨w.heap.size, 1, none⟩ = some mp ∧ Y.cell? ⟨w.heap.size + 1, 0, none⟩ = some (.bool q) ∧ Y.cell? ⟨w.heap.size + 1, 1, none⟩ = some mq) ∧ Ext w Y := by
  obtain ⟨⟨h0, h1, h2, h3, h4⟩, hx⟩ := h
  have hs := k.size
  exact ⟨⟨by omega, (k.cell (p := ⟨w.heap.size, 0, none⟩) (by show w.heap.size < _; omega)).trans h1, (k.cell (p := ⟨w.heap.size, 1, none⟩) (by show w.heap.size < _; omega)).trans h2, (k.cell (p := ⟨w.heap.size + 1, 0, none⟩) (by show w.heap.size + 1 < _; omega)).trans h3, (k.cell (p := ⟨w.heap.size + 1, 1, none⟩) (by show w.heap.size + 1 < _; omega)).trans h4⟩, hx.below k⟩
theorem keepS22 {w X : World} {p q : Bool} {mp mq x y : Value} (h : (w.heap.size + 1 + 1 + 1 < X.heap.size ∧ X.cell? ⟨w.heap.size, 0, none⟩ = some (.bool p) ∧ X.cell? ⟨w.heap.size, 1, none⟩ = some mp ∧ X.cell? ⟨w.heap.size + 1, 0, none⟩ = some (.bool q) ∧ X.cell? ⟨w.heap.size + 1, 1, none⟩ = some mq) ∧ Ext w X) : (w.heap.size + 1 + 1 + 1 < ((X.setCell ⟨w.heap.size + 1 + 1, 0, none⟩ x).setCell ⟨w.heap.size + 1 + 1, 1, none⟩ y).heap.size ∧ ((X.setCell ⟨w.heap.size + 1 + 1, 0, none⟩ x).setCell ⟨w.heap.size + 1 + 1, 1, none⟩ y).cell? ⟨w.heap.size, 0, none⟩ = some (.bool p) ∧ ((X.setCell ⟨w.heap.size + 1 + 1, 0, none⟩ x).setCell ⟨w.heap.size + 1 + 1, 1, none⟩ y).cell? ⟨w.heap.size, 1, none⟩ = some mp ∧ ((X.setCell ⟨w.heap.size + 1 + 1, 0, none⟩ x).setCell ⟨w.heap.size + 1 + 1, 1, none⟩ y).cell? ⟨w.heap.size + 1, 0, none⟩ = some (.bool q) ∧ ((X.setCell ⟨w.heap.size + 1 + 1, 0, none⟩ x).setCell ⟨w.heap.size + 1 + 1, 1, none⟩ y).cell? ⟨w.heap.size + 1, 1, none⟩ = some mq) ∧ Ext w ((X.setCell ⟨w.heap.size + 1 + 1, 0, none⟩ x).setCell ⟨w.heap.size + 1 + 1, 1, none⟩ y) := by
  obtain ⟨⟨h0, h1, h2, h3, h4⟩, hx⟩ := h
  have hc : ∀ a : Addr, a.block ≠ w.heap.size + 1 + 1 → ((X.setCell ⟨w.heap.size + 1 + 1, 0, none⟩ x).setCell ⟨w.heap.size + 1 + 1, 1, none⟩ y).cell? a = X.cell? a := fun a ha => by
    rw [World.cell?_setCell_other _ _ _ _ (fun e => ha (by rw [← e])), World.cell?_setCell_other _ _ _ _ (fun e => ha (by rw [← e]))]
  refine ⟨⟨by simpa using h0, ?_, ?_, ?_, ?_⟩, hx.put2 (by omega) _ _⟩
  · rw [hc _ (by show w.heap.size ≠ _; omega)]; exact h1
  · rw [hc _ (by show w.heap.size ≠ _; omega)]; exact h2
  · rw [hc _ (by show w.heap.size + 1 ≠ _; omega)]; exact h3
  · rw [hc _ (by show w.heap.size + 1 ≠ _; omega)]; exact h4
theorem keepT22 {w X : World} {p q : Bool} {mp mq x y : Value} (h : (w.heap.size + 1 + 1 + 1 < X.heap.size ∧ X.cell? ⟨w.heap.size, 0, none⟩ = some (.bool p) ∧ X.cell? ⟨w.heap.size, 1, none⟩ = some mp ∧ X.cell? ⟨w.heap.size + 1, 0, none⟩ = some (.bool q) ∧ X.cell? ⟨w.heap.size + 1, 1, none⟩ = some mq) ∧ Ext w X) : (w.heap.size + 1 + 1 + 1 < ((X.setCell ⟨w.heap.size + 1 + 1 + 1, 0, none⟩ x).setCell ⟨w.heap.size + 1 + 1 + 1, 1, none⟩ y).heap.size ∧ ((X.setCell ⟨w.heap.size + 1 + 1 + 1, 0, none⟩ x).setCell ⟨w.heap.size + 1 + 1 + 1, 1, none⟩ y).cell? ⟨w.heap.size, 0, none⟩ = some (.bool p) ∧ ((X.setCell ⟨w.heap.size + 1 + 1 + 1, 0, none⟩ x).setCell ⟨w.heap.size + 1 + 1 + 1, 1, none⟩ y).cell? ⟨w.heap.size, 1, none⟩ = some mp ∧ ((X.setCell ⟨w.heap.size + 1 + 1 + 1, 0, none⟩ x).setCell ⟨w.heap.size + 1 + 1 + 1, 1, none⟩ y).cell? ⟨w.heap.size + 1, 0, none⟩ = some (.bool q) ∧ ((X.setCell ⟨w.heap.size + 1 + 1 + 1, 0, none⟩ x).setCell ⟨w.heap.size + 1 + 1 + 1, 1, none⟩ y).cell? ⟨w.heap.size + 1, 1, none⟩ = some mq) ∧ Ext w ((X.setCell ⟨w.heap.size + 1 + 1 + 1, 0, none⟩ x).setCell ⟨w.heap.size + 1 + 1 + 1, 1, none⟩ y) := by
  obtain ⟨⟨h0, h1, h2, h3, h4⟩, hx⟩ := h
  have hc : ∀ a : Addr, a.block ≠ w.heap.size + 1 + 1 + 1 → ((X.setCell ⟨w.heap.size + 1 + 1 + 1, 0, none⟩ x).setCell ⟨w.heap.size + 1 + 1 + 1, 1, none⟩ y).cell? a = X.cell? a := fun a ha => by
    rw [World.cell?_setCell_other _ _ _ _ (fun e => ha (by rw [← e])), World.cell?_setCell_other _ _ _ _ (fun e => ha (by rw [← e]))]
  refine ⟨⟨by simpa using h0, ?_, ?_, ?_, ?_⟩, hx.put2 (by omega) _ _⟩
  · rw [hc _ (by show w.heap.size ≠ _; omega)]; exact h1
  · rw [hc _ (by show w.heap.size ≠ _; omega)]; exact h2
  · rw [hc _ (by show w.heap.size + 1 ≠ _; omega)]; exact h3
  · rw [hc _ (by show w.heap.size + 1 ≠ _; omega)]; exact h4
end Go.Proofs.YtfkcdmbiihkiiaaGreatDoor
