/- The document's own Make and Made. -/
import Derived.Test.YtbdmncpibnligaaGreatDoorBaj
import Derived.Test.YtbdmncpibnligaaGreatDoorBal
import Derived.Test.YtbdmncpibnligaaGreatDoorBam
import Derived.Test.YtbdmncpibnligaaGreatDoorBah
import Derived.Test.YtbdmncpibnligaaGreatDoorBai

namespace Go.Proofs.YtbdmncpibnligaaGreatDoor
open Go.RowKit
set_option linter.unusedVariables false
set_option maxHeartbeats 400000
set_option maxRecDepth 100000
attribute [local go_sem ↓] app_shut
attribute [local go_sem] run_append_tok

theorem rmake_calls (w : World) (v : Value) (xs : List Nat) (h : U w v xs) (hlen : xs.length ≤ 1000000000) :
    Calls Tryz.prog 32 #[v] w fun e w' => (∃ u, e = .returned u ∧ U w' u (limbs (val xs))) ∧ Below w.heap.size w w' := by
  have h' := h
  obtain ⟨A, c, rfl, ⟨hc, hm⟩, hx, hr⟩ := h
  go_enter Tryz.func32, Tryz.ntmps32
  go_wp2
  go_loop [3] (fun n => ∃ k : Nat, k ≤ xs.length ∧ n = .int .i64 k ∧ Hid (∀ j, k ≤ j → j < xs.length → lb xs j = 0)) (fun n => (intOf n).toNat)
  case atStart => exact ⟨xs.length, Nat.le_refl _, rfl, fun j h1 h2 => by omega⟩
  case round =>
    obtain ⟨k, hk, rfl, hz⟩ := hrel
    have hfin : (0 < k → lb xs (k - 1) ≠ 0) → ∃ v' w', (Builtin.append_ #[22, 22] 22 #[.slice (some ⟨w.heap.size, 0, none⟩) 0 0, .slice A k c]).run Tryz.prog (w.alloc (.cells #[] 36)) = .ok v' w' ∧ U w' v' (limbs (val xs)) ∧ Below w.heap.size w w' := fun h2 => by
      have hB : Below w.heap.size w (w.alloc (.cells #[] 36)) := (Below.refl _ _).alloc (Nat.le_refl _) _
      have hown : Own (w.alloc (.cells #[] 36)) w.heap.size (.slice (some ⟨w.heap.size, 0, none⟩) 0 0) [] := World.ownsRow_lit w #[] 0 (Nat.le_refl _) (Nat.zero_le _) rfl
      have hu : U w (.slice A k c) (xs.take k) := h'.take hk (by omega)
      have htl : (xs.take k).length = k := by simp; omega
      obtain ⟨v', w', hrun, ho, hg⟩ := run_append_U _ w.heap.size _ [] hown _ _ (hu.below hB) (by rw [htl]; simp; omega) hB.size
      refine ⟨v', w', hrun, ?_, hB.grown hg hB.size (fun j e => by cases e; exact Nat.le_refl _)⟩
      rw [strip_eq xs k hx hk hz.out h2]
      rw [List.nil_append] at ho
      exact ho.toU (fun x hx' => hx x (List.mem_of_mem_take hx')) (by rw [htl]; omega)
    rcases Nat.eq_zero_or_pos k with rfl | h0
    · obtain ⟨v', w', hrun, HU, HB⟩ := hfin (fun h => absurd h (by omega))
      obtain ⟨t1, t2, t3⟩ := app_tok hrun
      clear hfin hrun
      go_wp2
      go_ret
      exact ⟨⟨_, rfl, HU⟩, HB⟩
    · obtain ⟨ad, rfl, hb, hcell⟩ := hr (by omega)
      have hc1 := hcell (k - 1) (by omega)
      by_cases hx0 : lb xs (k - 1) = 0
      · have ht : ((((lb xs (k - 1) : Nat)) : Int) == 0) = true := by rw [hx0]; rfl
        have HX := Lib.hid hx0
        clear hx0 hfin
        go_wp2
        go_round
        case rel => exact ⟨k - 1, by omega, by go_num, fun j h1 h2 => by
          rcases Nat.lt_or_ge j k with h3 | h3
          · have : j = k - 1 := by omega
            subst this; exact HX.out
          · exact hz.out j h3 h2⟩
        case measure => simp [intOf]; omega
      · have ht : ((((lb xs (k - 1) : Nat)) : Int) == 0) = false := by rw [beq_eq_false_iff_ne]; omega
        obtain ⟨v', w', hrun, HU, HB⟩ := hfin (fun _ => hx0)
        obtain ⟨t1, t2, t3⟩ := app_tok hrun
        clear hfin hrun hx0
        go_wp2
        go_ret
        exact ⟨⟨_, rfl, HU⟩, HB⟩
end Go.Proofs.YtbdmncpibnligaaGreatDoor
/- The document's own Made. -/
namespace Go.Proofs.YtbdmncpibnligaaGreatDoor
open Go.RowKit
set_option linter.unusedVariables false
set_option maxHeartbeats 400000
set_option maxRecDepth 100000

/-- The number that the first k limbs are. -/
def cutN (xs : List Nat) (k : Nat) : Nat := val (xs.take k)
theorem made_calls (w : World) (v : Value) (xs : List Nat) (k : Int) (hk0 : 0 ≤ k) (hk1 : k ≤ 1000000000) (h : U w v xs) :
    Calls Tryz.prog 13 #[v, .int .i64 k] w fun e w' => (∃ u, e = .returned u ∧ Un w' u (cutN xs k.toNat)) ∧ Below w.heap.size w w' := by
  have h' := h
  obtain ⟨A, c, rfl, ⟨hc, hm⟩, hx, hr⟩ := h
  clear hr
  by_cases hl : (xs.length : Int) ≤ k
  · have hu := rmake_calls w _ xs h' (by omega)
    have HT : Hid (xs.take k.toNat = xs) := List.take_of_length_le (by omega)
    have hmin : min (xs.length : Int) k = xs.length := by omega
    go_enter Tryz.func13, Tryz.ntmps13
    go_wp2_with (go_at_call 32; refine hu.mono ?_; rintro e w' ⟨⟨z, rfl, hz⟩, hB⟩)
    go_ret
    exact ⟨⟨_, rfl, by rw [Un, cutN, HT.out]; exact hz⟩, hB⟩
  · obtain ⟨k, rfl⟩ := Int.eq_ofNat_of_zero_le hk0
    have hu := rmake_calls w _ _ (h'.take (k := k) (c' := c) (by omega) (by omega)) (by rw [List.length_take]; omega)
    have hmin : min (xs.length : Int) (k : Int) = k := by omega
    go_enter Tryz.func13, Tryz.ntmps13
    go_wp2_with (go_at_call 32; refine hu.mono ?_; rintro e w' ⟨⟨z, rfl, hz⟩, hB⟩)
    go_ret
    exact ⟨⟨_, rfl, by rw [Un, cutN, Int.toNat_natCast]; exact hz⟩, hB⟩
end Go.Proofs.YtbdmncpibnligaaGreatDoor
/- The contracts in one form: whatever lay lies as it lay; the results as the callers ask for them. -/
namespace Go.Proofs.YtbdmncpibnligaaGreatDoor
open Go.RowKit
set_option linter.unusedVariables false

theorem Un.alloc {w : World} {v : Value} {n : Nat} (h : Un w v n) (o : Obj) : Un (w.alloc o) v n := U.alloc h o
theorem lim {n : Nat} (xs : List Nat) (hv : val xs = n) (hx : ∀ x ∈ xs, x < 4294967296) (hl : xs ≠ [] → xs[xs.length - 1]?.getD 0 ≠ 0) : limbs n = xs := by rw [← hv]; exact limbs_val xs hx hl
theorem Un_nil (w : World) : Un w (.slice none 0 0) 0 := by rw [Un, limbs_zero]; exact U.nil_ _ _ _

theorem same_B (w : World) (v u : Value) (xs ys : List Nat) (h : U w v xs) (g : U w u ys) (b : Bool) (hb : decide (xs = ys) = b) :
    Calls Tryz.prog 20 #[v, u] w fun e w' => e = .returned (.bool b) ∧ Ext w w' :=
  (same_calls w v u xs ys h g).mono fun e w' ⟨he, n, hw⟩ => ⟨by rw [he, hb], by rw [hw]; exact ext_drewN w n⟩
theorem make_B (w : World) (v : Value) (xs : List Nat) (h : U w v xs) (n : Nat) (hn : val xs = n) :
    Calls Tryz.prog 58 #[v] w fun e w' => ∃ u, e = .returned u ∧ Un w' u n ∧ Ext w w' :=
  (make_calls w v xs h).mono fun e w' ⟨⟨u, he, hu⟩, hw⟩ => ⟨u, he, by rw [← hw, Un, ← hn]; exact hu, by rw [← hw]; exact Ext.refl w⟩
theorem of_B (w : World) (k : Int) (h0 : 0 ≤ k) (h1 : k < 18446744073709551616) (n : Nat) (hn : k.toNat = n) :
    Calls Tryz.prog 37 #[.int .u64 k] w fun e w' => ∃ u, e = .returned u ∧ Un w' u n ∧ Ext w w' := by
  subst hn
  have := nof_calls w k.toNat (by omega)
  rw [show ((k.toNat : Nat) : Int) = k by omega] at this
  exact this.mono fun e w' ⟨⟨u, he, hu⟩, hb⟩ => ⟨u, he, hu, hb⟩
theorem low_B (w : World) (v : Value) (n : Nat) (h : Un w v n) (k : Int) (b : Bool) (hk : ((lowN n : Nat) : Int) = k) (hb : lowB n = b) :
    Calls Tryz.prog 35 #[v] w fun e w' => e = .returned (.tuple #[.int .u64 k, .bool b]) ∧ Ext w w' :=
  (low_calls w v n h).mono fun e w' ⟨he, hw⟩ => ⟨by rw [he, hk, hb], by rw [← hw]; exact Ext.refl w⟩
theorem bits_B (w : World) (v : Value) (n : Nat) (h : Un w v n) (hl : (limbs n).length ≤ 1000000000) (k : Int) (hk : ((blen n : Nat) : Int) = k) :
    Calls Tryz.prog 38 #[v] w fun e w' => e = .returned (.int .i64 k) ∧ Ext w w' :=
  (bits_calls w v n h hl).mono fun e w' ⟨he, hw⟩ => ⟨by rw [he, hk], by rw [← hw]; exact Ext.refl w⟩
theorem bit_B (w : World) (v : Value) (n : Nat) (i : Int) (h : Un w v n) (hi0 : -9000000000000 ≤ i) (hi1 : i ≤ 9000000000000) (k : Int) (hk : ((bitN n i : Nat) : Int) = k) :
    Calls Tryz.prog 47 #[v, .int .i64 i] w fun e w' => e = .returned (.int .u32 k) ∧ Ext w w' :=
  (bit_calls w v n i hi0 hi1 h).mono fun e w' ⟨he, hw⟩ => ⟨by rw [he, hk], by rw [← hw]; exact Ext.refl w⟩
theorem cmp_B (w : World) (v u : Value) (n m : Nat) (h : Un w v n) (g : Un w u m) (k : Int) (hk : cmpI n m = k) :
    Calls Tryz.prog 45 #[v, u] w fun e w' => e = .returned (.int .i64 k) ∧ Ext w w' :=
  (cmp_calls w v u n m h g).mono fun e w' ⟨he, hw⟩ => ⟨by rw [he, hk], hw⟩
theorem add_B (w : World) (v u : Value) (n m : Nat) (h : Un w v n) (g : Un w u m) (hm : (limbs n).length ≤ 1000000000) (hm2 : (limbs m).length ≤ 1000000000) (s : Nat) (hs : n + m = s) :
    Calls Tryz.prog 40 #[v, u] w fun e w' => ∃ z, e = .returned z ∧ Un w' z s ∧ Ext w w' := by
  subst hs
  have := nadd_calls w v u _ _ h g hm hm2
  rw [val_limbs, val_limbs] at this
  exact this.mono fun e w' ⟨⟨z, he, hz⟩, hb⟩ => ⟨z, he, hz, hb⟩
theorem sub_B (w : World) (v u : Value) (n m : Nat) (h : Un w v n) (g : Un w u m) (hm : (limbs n).length ≤ 1000000000) (b : Bool) (hb : decide (m ≤ n) = b) (d : Nat) (hd : n - m = d) :
    Calls Tryz.prog 71 #[v, u] w fun e w' => ∃ z, e = .returned (.tuple #[z, .bool b]) ∧ Un w' z d ∧ Ext w w' := by
  subst hd hb
  exact (nsub_calls w v u n m h g hm).mono fun e w' ⟨⟨z, he, hz⟩, hb⟩ => ⟨z, he, hz, hb⟩
theorem shl_B (w : World) (v : Value) (n : Nat) (k : Int) (h : Un w v n) (hk0 : 0 ≤ k) (hk1 : k ≤ 1000000000) (hl : (limbs n).length ≤ 1000000000) (s : Nat) (hs : n * 2 ^ k.toNat = s) :
    Calls Tryz.prog 41 #[v, .int .i64 k] w fun e w' => ∃ u, e = .returned u ∧ Un w' u s ∧ Ext w w' := by
  subst hs
  exact (shl_calls w v n k hk0 hk1 h hl).mono fun e w' ⟨⟨u, he, hu⟩, hb⟩ => ⟨u, he, hu, hb⟩
theorem shr_B (w : World) (v : Value) (n : Nat) (k : Int) (h : Un w v n) (hk0 : 0 ≤ k) (hk1 : k ≤ 1000000000) (hl : (limbs n).length ≤ 1000000000) (s : Nat) (hs : n / 2 ^ k.toNat = s) :
    Calls Tryz.prog 39 #[v, .int .i64 k] w fun e w' => ∃ u, e = .returned u ∧ Un w' u s ∧ Ext w w' := by
  subst hs
  exact (shr_calls w v n k hk0 hk1 h hl).mono fun e w' ⟨⟨u, he, hu⟩, hb⟩ => ⟨u, he, hu, hb⟩
theorem made_B (w : World) (v : Value) (xs : List Nat) (k : Int) (h : U w v xs) (hk0 : 0 ≤ k) (hk1 : k ≤ 1000000000) (n : Nat) (hn : cutN xs k.toNat = n) :
    Calls Tryz.prog 13 #[v, .int .i64 k] w fun e w' => ∃ u, e = .returned u ∧ Un w' u n ∧ Ext w w' := by
  subst hn
  exact (made_calls w v xs k hk0 hk1 h).mono fun e w' ⟨⟨u, he, hu⟩, hb⟩ => ⟨u, he, hu, hb⟩
end Go.Proofs.YtbdmncpibnligaaGreatDoor
/- Slices of 64-bit words: read, and made by the call itself. -/
namespace Go.Proofs.YtbdmncpibnligaaGreatDoor
open Go.RowKit
set_option linter.unusedVariables false
set_option maxHeartbeats 400000

theorem info64 : (Tryz.prog.info? 49).map (fun i => (i.zero, i.size, i.bytes)) = some (some (.int .u64 0), 1, 8) := by kernel_rfl

/-- v is a slice of words whose first cells are xs, none of them in block g. -/
def V (g : Nat) (w : World) (v : Value) (xs : List Nat) : Prop :=
  ∃ (A : Option Addr) (c : Nat), v = .slice A xs.length c ∧ (xs.length ≤ c ∧ xs.length ≤ 9223372036854775807) ∧ (∀ x ∈ xs, x < 18446744073709551616) ∧
    (0 < xs.length → ∃ ad, A = some ad ∧ ad.block < w.heap.size ∧ ad.block ≠ g ∧ ∀ j, j < xs.length → w.cell? (ad.add j) = some (.int .u64 (lb xs j : Nat)))
theorem V.lim {g : Nat} {w : World} {v : Value} {xs : List Nat} (h : V g w v xs) : ∀ x ∈ xs, x < 18446744073709551616 := by
  obtain ⟨A, c, rfl, hc, hx, hr⟩ := h; exact hx
theorem V.keep {g : Nat} {w w' : World} {v : Value} {xs : List Nat} (h : V g w v xs) (hs : w.heap.size ≤ w'.heap.size) (hk : ∀ p : Addr, p.block < w.heap.size → p.block ≠ g → w'.cell? p = w.cell? p) : V g w' v xs := by
  obtain ⟨A, c, rfl, hc, hx, hr⟩ := h
  refine ⟨A, c, rfl, hc, hx, fun h0 => ?_⟩
  obtain ⟨ad, hA, hb, hne, hcell⟩ := hr h0
  exact ⟨ad, hA, by omega, hne, fun j hj => (hk _ (by rw [addr_add_block]; exact hb) (by rw [addr_add_block]; exact hne)).trans (hcell j hj)⟩
theorem V.below {g : Nat} {w w' : World} {v : Value} {xs : List Nat} (h : V g w v xs) (hb : Ext w w') : V g w' v xs := h.keep hb.size fun _ hp _ => hb.cell hp
theorem V.but {g : Nat} {w w' : World} {v : Value} {xs : List Nat} (h : V g w v xs) (hb : But g w w') : V g w' v xs := h.keep hb.size fun _ hp hn => hb.cell hp hn
theorem V.new {g g' : Nat} {w : World} {v : Value} {xs : List Nat} (h : V g' w v xs) (hg : w.heap.size ≤ g) : V g w v xs := by
  obtain ⟨A, c, rfl, hc, hx, hr⟩ := h
  refine ⟨A, c, rfl, hc, hx, fun h0 => ?_⟩
  obtain ⟨ad, hA, hb, hne, hcell⟩ := hr h0
  exact ⟨ad, hA, hb, by omega, hcell⟩
theorem V.nil_ (g : Nat) (w : World) (A : Option Addr) (c : Nat) : V g w (.slice A 0 c) [] := ⟨A, c, rfl, ⟨Nat.zero_le _, Nat.zero_le _⟩, by simp, fun h => absurd h (by simp)⟩
/-- A slice of it. -/
theorem V.take {g : Nat} {w : World} {A : Option Addr} {n c : Nat} {xs : List Nat} (h : V g w (.slice A n c) xs) {k c' : Nat} (hk : k ≤ n) (hc' : k ≤ c') : V g w (.slice A k c') (xs.take k) := by
  obtain ⟨A, c, hv, hc, hx, hr⟩ := h
  injection hv with h1 h2 h3
  subst h1 h2 h3
  have hlen : (xs.take k).length = k := by simp; omega
  refine ⟨_, c', by rw [hlen], by omega, fun x hx' => hx x (List.mem_of_mem_take hx'), fun h0 => ?_⟩
  obtain ⟨ad, hA, hb, hne, hcell⟩ := hr (by omega)
  refine ⟨ad, hA, hb, hne, fun j hj => ?_⟩
  rw [hcell j (by omega), lb_take (by omega)]
theorem V.drop {g : Nat} {w : World} {ad : Addr} {n c : Nat} {xs : List Nat} (h : V g w (.slice (some ad) n c) xs) {k m c' : Nat} (hk : k ≤ n) (hm : n - k = m) (hc' : m ≤ c') : V g w (.slice (some (ad.add k)) m c') (xs.drop k) := by
  obtain ⟨A, c, hv, hc, hx, hr⟩ := h
  injection hv with h1 h2 h3
  subst h1 h2 h3
  have hlen : (xs.drop k).length = m := by simp; omega
  refine ⟨_, c', by rw [hlen], by omega, fun x hx' => hx x (List.mem_of_mem_drop hx'), fun h0 => ?_⟩
  obtain ⟨ad', hA, hb, hne, hcell⟩ := hr (by omega)
  injection hA with hA
  subst hA
  refine ⟨_, rfl, by rw [addr_add_block]; exact hb, by rw [addr_add_block]; exact hne, fun j hj => ?_⟩
  rw [addr_add_add, hcell (k + j) (by omega), lb_drop]
theorem V.opened {g : Nat} {w : World} {v : Value} {xs : List Nat} (h : V g w v xs) {n : Nat} (hn : xs.length = n) (h0 : 0 < n) : ∃ ad c, v = .slice (some ad) n c ∧ n ≤ c ∧ ad.block < w.heap.size ∧ ad.block ≠ g ∧ ∀ j, j < n → w.cell? (ad.add j) = some (.int .u64 (lb xs j : Nat)) := by
  subst hn
  obtain ⟨A, c, rfl, hc, hx, hr⟩ := h
  obtain ⟨ad, rfl, hb, hne, hcell⟩ := hr h0
  exact ⟨ad, c, rfl, hc.1, hb, hne, hcell⟩
theorem V.shape {g : Nat} {w : World} {v : Value} {xs : List Nat} (h : V g w v xs) : ∃ A c, v = .slice A xs.length c ∧ xs.length ≤ c := by
  obtain ⟨A, c, rfl, hc, _⟩ := h; exact ⟨A, c, rfl, hc.1⟩

def L64 (o : List Nat) : List Value := o.map fun x => Value.int .u64 (x : Nat)
theorem L64_length (o : List Nat) : (L64 o).length = o.length := by simp [L64]
theorem L64_get (o : List Nat) {j : Nat} (h : j < o.length) : (L64 o)[j]? = some (.int .u64 (lb o j : Nat)) := by
  unfold L64 lb; simp [h]
theorem L64_append (a b : List Nat) : L64 (a ++ b) = L64 a ++ L64 b := by simp [L64]
theorem L64_set (a : List Nat) (i x : Nat) : L64 (a.set i x) = (L64 a).set i (.int .u64 (x : Nat)) := by simp [L64, List.map_set]
theorem L64_zeros (k : Nat) : L64 (List.replicate k 0) = List.replicate k (.int .u64 0) := by simp [L64]

/-- v is a row of the call's own, from block base on: the words o. -/
def Ow (w : World) (base : Nat) (v : Value) (o : List Nat) : Prop := w.ownsRow base 49 1 v o.length (L64 o)
theorem Ow.caps {w : World} {base g n c : Nat} {o : List Nat} (h : Ow w base (.slice (some ⟨g, 0, none⟩) n c) o) : n = o.length ∧ n ≤ c ∧ c ≤ maxLen := by
  rcases h.2 with ⟨h1, _⟩ | ⟨g', cap, cur, h1, hg, hh, h2, h3, h4, h5⟩
  · cases h1
  · injection h1 with e1 e2 e3
    subst e2 e3
    exact ⟨rfl, h2, h3⟩
theorem Ow.block {w : World} {base g n c : Nat} {o : List Nat} (h : Ow w base (.slice (some ⟨g, 0, none⟩) n c) o) : base ≤ g ∧ g < w.heap.size := by
  have h0 : w.ownsRow base 49 1 (.slice (some ⟨g, 0, none⟩) n c) o.length (L64 o) := h
  exact h0.lt g rfl
theorem Ow.cell {w : World} {base g n c : Nat} {o : List Nat} (h : Ow w base (.slice (some ⟨g, 0, none⟩) n c) o) {j : Nat} (hj : j < n) : w.cell? ⟨g, j, none⟩ = some (.int .u64 (lb o j : Nat)) := by
  obtain ⟨e, _, _⟩ := h.caps
  subst e
  have h0 : w.ownsRow base 49 1 (.slice (some ⟨g, 0, none⟩) o.length c) o.length (L64 o) := h
  rw [World.ownsRow.cellAt h0 j (by omega)]; exact L64_get o hj
theorem Ow.frozen {w : World} {base g n c : Nat} {o : List Nat} (h : Ow w base (.slice (some ⟨g, 0, none⟩) n c) o) (j : Nat) : w.frozen? ⟨g, j, none⟩ = false := by
  obtain ⟨e, _, _⟩ := h.caps
  subst e
  have h0 : w.ownsRow base 49 1 (.slice (some ⟨g, 0, none⟩) o.length c) o.length (L64 o) := h
  exact World.ownsRow.frozenAt h0 j
theorem Ow.set_ {w : World} {base g n c : Nat} {o : List Nat} (h : Ow w base (.slice (some ⟨g, 0, none⟩) n c) o) (j x : Nat) : Ow (w.setCell ⟨g, j, none⟩ (.int .u64 (x : Nat))) base (.slice (some ⟨g, 0, none⟩) n c) (o.set j x) := by
  obtain ⟨e, _, _⟩ := h.caps
  subst e
  have h0 : w.ownsRow base 49 1 (.slice (some ⟨g, 0, none⟩) o.length c) o.length (L64 o) := h
  have := (World.ownsRow.stored h0 j (.int .u64 (x : Nat))).1
  unfold Ow
  rw [L64_set, List.length_set]
  exact this
theorem Ow.drew {w : World} {base : Nat} {v : Value} {o : List Nat} (h : Ow w base v o) : Ow w.drew base v o := h
theorem Ow.alloc {w : World} {base : Nat} {v : Value} {o : List Nat} (h : Ow w base v o) (x : Obj) : Ow (w.alloc x) base v o := World.ownsRow.alloc h x
theorem Ow.below {w w' : World} {base B : Nat} {v : Value} {o : List Nat} (h : Ow w base v o) (hB : Below B w w') (hv : ∀ g, v.ownBlock = some g → g < B) : Ow w' base v o := by
  refine ⟨h.1, ?_⟩
  rcases h.2 with hn | ⟨g, cap, cur, rfl, hb, hgg, rest⟩
  · exact .inl hn
  · refine .inr ⟨g, cap, cur, rfl, hb, ?_, rest⟩
    rw [hB.block g (hv g rfl)]
    exact hgg
theorem Ow.ext {w w' : World} {base g n c : Nat} {o : List Nat} (h : Ow w base (.slice (some ⟨g, 0, none⟩) n c) o) (hB : Ext w w') : Ow w' base (.slice (some ⟨g, 0, none⟩) n c) o :=
  h.below hB fun g' e => by have h2 := h.block.2; have e' : g = g' := Option.some.inj e; omega
theorem Ow.but {w w' : World} {base g q n c : Nat} {o : List Nat} (h : Ow w base (.slice (some ⟨g, 0, none⟩) n c) o) (hb : But q w w') (hne : g ≠ q) : Ow w' base (.slice (some ⟨g, 0, none⟩) n c) o := by
  have hlt := h.block.2
  refine ⟨h.1, ?_⟩
  rcases h.2 with hn | ⟨q', cap, cur, e, hbq, hgg, rest⟩
  · exact .inl hn
  · injection e with e1 e2 e3
    injection e1 with e1
    injection e1 with e1
    subst e1
    refine .inr ⟨g, cap, cur, by rw [e2, e3], hbq, ?_, rest⟩
    rw [hb.block g hlt (fun e => hne (by injection e))]
    exact hgg
theorem Ow.base_mono {w : World} {base base' : Nat} {v : Value} {o : List Nat} (h : Ow w base v o) (hb : base' ≤ base) : Ow w base' v o := by
  refine ⟨h.1, ?_⟩
  rcases h.2 with hn | ⟨g, cap, cur, rfl, hg, rest⟩
  · exact .inl hn
  · exact .inr ⟨g, cap, cur, rfl, by omega, rest⟩
theorem Ow.zeros {w : World} {base g : Nat} {n : Nat} (h : w.ownsRow base 49 1 (.slice (some ⟨g, 0, none⟩) n n) n (madeCells (Value.int .u64 0).cells (n * 1)).toList) :
    Ow w base (.slice (some ⟨g, 0, none⟩) n n) (List.replicate n 0) := by
  have e : (madeCells (Value.int .u64 0).cells (n * 1)).toList = L64 (List.replicate n 0) := by
    rw [L64_zeros, Nat.mul_one]; exact toList_madeCells_one _ _
  rw [e] at h
  unfold Ow
  rw [List.length_replicate]
  exact h
/-- A row is read by whoever does not write into it. -/
theorem Ow.toV {w : World} {base g n c : Nat} {o : List Nat} (h : Ow w base (.slice (some ⟨g, 0, none⟩) n c) o) (hx : ∀ x ∈ o, x < 18446744073709551616) (q : Nat) (hq : g ≠ q) : V q w (.slice (some ⟨g, 0, none⟩) n c) o := by
  obtain ⟨e, h1, h2⟩ := h.caps
  subst e
  refine ⟨_, c, rfl, ⟨h1, by unfold maxLen at h2; omega⟩, hx, fun h0 => ⟨_, rfl, h.block.2, hq, fun j hj => ?_⟩⟩
  rw [addr_zero_add]; exact h.cell hj
theorem Ext.but {g : Nat} {a b c : World} (h : Ext a b) (k : But g b c) (hg : a.heap.size ≤ g) : Ext a c := Below.trans h (k.below hg h.size)
end Go.Proofs.YtbdmncpibnligaaGreatDoor
/- Limbs as words, and back. -/
namespace Go.Proofs.YtbdmncpibnligaaGreatDoor
open Go.RowKit
set_option linter.unusedVariables false
set_option maxHeartbeats 400000

theorem u64_or32 (x y z : Nat) (hx : x < 4294967296) (hy : y < 4294967296) (hz : x + 4294967296 * y = z) : bits .or .u64 (x : Int) ((4294967296 * y : Nat) : Int) = (z : Int) := by
  rw [u64_or_nat _ _ (by omega) (by omega), Nat.or_comm, nat_join 32 _ x (Nat.mul_mod_right _ _) hx]
  omega
structure PkI (xs : List Nat) (m i : Nat) (o : List Nat) : Prop where
  len : o.length = m
  at_ : ∀ j, j < i → lb o j = lb (packL xs) j
theorem PkI.step {xs : List Nat} {m i : Nat} {o : List Nat} (h : PkI xs m i o) (hi : i < m) (x : Nat) (hx : lb (packL xs) i = x) : PkI xs m (i + 1) (o.set i x) := by
  refine ⟨by simp [h.len], fun j hj => ?_⟩
  rw [lb_set _ _ _ _ (by rw [h.len]; exact hi)]
  by_cases e : i = j
  · rw [if_pos e, ← e, hx]
  · rw [if_neg e]; exact h.at_ j (by omega)
theorem PkI.done {xs : List Nat} {m : Nat} {o : List Nat} (h : PkI xs m m o) (hm : (packL xs).length = m) : o = packL xs :=
  ext_lb (by rw [h.len, hm]) fun j hj => h.at_ j (by rw [← h.len]; exact hj)

set_option maxRecDepth 100000 in
set_option maxHeartbeats 4000000 in
theorem pack_calls (w : World) (v : Value) (xs : List Nat) (h : U w v xs) (hl : xs.length ≤ 1000000) (m : Nat) (hm : (xs.length + 1) / 2 = m) :
    Calls Tryz.prog 87 #[v] w fun e w' => e = .returned (.slice (some ⟨w.heap.size, 0, none⟩) m m) ∧ Ow w' w.heap.size (.slice (some ⟨w.heap.size, 0, none⟩) m m) (packL xs) ∧ Ext w w' := by
  obtain ⟨A, c, rfl, ⟨hc, hmx⟩, hx, hr⟩ := h
  obtain ⟨i0, hi, hz0, hz1, hz2⟩ := info_parts info64
  obtain ⟨n, hn⟩ : ∃ n, xs.length = n := ⟨_, rfl⟩
  rw [hn] at hc hmx hr hl hm ⊢
  have HM : Hid ((packL xs).length = m) := by rw [Hid, packL_len, hn]; exact hm
  have HN := Lib.hid hn
  have HXL := Lib.hid (lb_packL xs)
  have hmi : ((n : Int) + 1) / 2 = (m : Int) := by omega
  obtain ⟨q, hq⟩ : ∃ q, n / 2 = q := ⟨_, rfl⟩
  have hqi : (n : Int) / 2 = (q : Int) := by omega
  obtain ⟨B, hB⟩ : ∃ B, w.heap.size = B := ⟨_, rfl⟩
  rw [hB]
  have HBS := Lib.hid hB
  have hm1 : m ≤ 1000000 := by omega
  clear hn
  go_enter Tryz.func87, Tryz.ntmps87
  go_wp2_with (at_make; refine wpList_make_full _ rfl _ _ 92 rfl w.heap.size 49 i0 (.int .u64 0) 1 Tryz.underlying92 hi hz0 hz1 _ _ _ _ m rfl rfl (by omega) (by omega) (by rw [hz2]; omega) (by unfold maxLen; omega) (Nat.le_refl _) ?_; intro w1 hown hgrow)
  have ho0 := Ow.zeros hown
  have hE0 : Ext w w1 := (Ext.refl w).grown hgrow (Nat.le_refl _) (fun _ h => by cases h)
  rw [hB] at ho0
  clear hown hgrow hi hz0 hz1 hz2 i0
  go_wp2
  go_loopw [13] (fun t wr => ∃ (i : Nat) (o : List Nat), i ≤ q ∧ t = .int .i64 (i : Nat) ∧ Hid (PkI xs m i o) ∧ Ow wr B (.slice (some ⟨B, 0, none⟩) m m) o ∧ Ext w wr) (fun t _ => q - (intOf t).toNat)
  case atStart => exact ⟨0, _, Nat.zero_le _, rfl, ⟨by simp, fun j hj => absurd hj (by omega)⟩, ho0, hE0⟩
  case round =>
    clear ho0 hE0
    obtain ⟨i, o, hiq, rfl, HO, hown, hE⟩ := hrel
    by_cases hlt : i < q
    · obtain ⟨ad, rfl, hb, hcell⟩ := hr (by omega)
      have hc0 := (hE.cell (p := ad.add (2 * i)) (by rw [addr_add_block]; exact hb)).trans (hcell (2 * i) (by omega))
      have hc1 := (hE.cell (p := ad.add (2 * i + 1)) (by rw [addr_add_block]; exact hb)).trans (hcell (2 * i + 1) (by omega))
      rw [addr_at _ (2 * i + 1) (by omega)] at hc1
      have hb0 := lb_lt hx (2 * i)
      have hb1 := lb_lt hx (2 * i + 1)
      have hz := HXL.out i
      obtain ⟨x, hx0⟩ : ∃ x, lb xs (2 * i) = x := ⟨_, rfl⟩
      obtain ⟨y, hy0⟩ : ∃ y, lb xs (2 * i + 1) = y := ⟨_, rfl⟩
      rw [hx0] at hc0 hb0 hz
      rw [hy0] at hc1 hb1 hz
      obtain ⟨z, hzz⟩ : ∃ z, x + 4294967296 * y = z := ⟨_, rfl⟩
      rw [hzz] at hz
      have hor := u64_or32 x y z hb0 hb1 hzz
      have hyi : (y : Int) * 4294967296 = ((4294967296 * y : Nat) : Int) := by omega
      have hyw : IntKind.u64.wrap ((4294967296 * y : Nat) : Int) = ((4294967296 * y : Nat) : Int) := by rw [IntKind.wrap_u64]; omega
      have hym : ((4294967296 * y : Nat) : Int) % 18446744073709551616 = ((4294967296 * y : Nat) : Int) := by omega
      have hxw : IntKind.u64.wrap (x : Int) = (x : Int) := by rw [IntKind.wrap_u64]; omega
      have hyw2 : IntKind.u64.wrap (y : Int) = (y : Int) := by rw [IntKind.wrap_u64]; omega
      have hf := hown.frozen i
      have hcz := hown.cell (j := i) (by omega)
      have hown2 := hown.set_ i z
      have hE2 := hE.setCell (p := ⟨B, i, none⟩) (by rw [hB]; exact Nat.le_refl _) (.int .u64 (z : Nat))
      have HST : Hid (PkI xs m (i + 1) (o.set i z)) := HO.out.step (by omega) z hz
      generalize 4294967296 * y = y2 at *
      have h2a : (0 : Int) ≤ 2 * (i : Int) := by omega
      have h2b : 2 * (i : Int) < (n : Int) := by omega
      have h2c : 2 * (i : Int) + 1 < (n : Int) := by omega
      have h2d : (2 * (i : Int)).toNat = 2 * i := by omega
      have h2e : (2 * (i : Int) + 1).toNat = 2 * i + 1 := by omega
      have h2f : (i : Int) < (m : Int) := by omega
      have hbn : (ad.add (2 * i)).block ≠ B := by rw [addr_add_block]; omega
      have hbn2 : ad.block ≠ B := by omega
      clear hx0 hy0 hz hzz hb0 hb1 hown HO hE
      go_wp2
      go_region
      all_goals
        go_wp2
        go_roundw
        case rel => exact ⟨i + 1, _, by omega, by go_num, HST, hown2.drew, hE2.drew⟩
        case measure => simp [intOf]; omega
    · obtain rfl : i = q := by omega
      by_cases hodd : n % 2 = 1
      · have hmm : m = i + 1 := by omega
        have hm2 : (n : Int).tmod 2 = 1 := by rw [Int.tmod_eq_emod_of_nonneg (by omega)]; omega
        have hm3 : (n : Int) % 2 = 1 := by omega
        obtain ⟨ad, rfl, hb, hcell⟩ := hr (by omega)
        have hc0 := (hE.cell (p := ad.add (2 * i)) (by rw [addr_add_block]; exact hb)).trans (hcell (2 * i) (by omega))
        have hz := HXL.out i
        rw [lb_out (o := xs) (j := 2 * i + 1) (by rw [HN.out]; omega), Nat.mul_zero, Nat.add_zero] at hz
        have hb0 := lb_lt hx (2 * i)
        obtain ⟨x, hx0⟩ : ∃ x, lb xs (2 * i) = x := ⟨_, rfl⟩
        rw [hx0] at hc0 hb0 hz
        have hxw : IntKind.u64.wrap (x : Int) = (x : Int) := by rw [IntKind.wrap_u64]; omega
        have hf := hown.frozen i
        have hcz := hown.cell (j := i) (by omega)
        have hown2 := hown.set_ i x
        have hE2 := hE.setCell (p := ⟨B, i, none⟩) (by rw [hB]; exact Nat.le_refl _) (.int .u64 (x : Nat))
        have HST : Hid (PkI xs m (i + 1) (o.set i x)) := HO.out.step (by omega) x hz
        rw [← hmm] at HST
        have hdone := HST.out.done HM.out
        rw [hdone] at hown2
        have e1 : (n : Int) - 1 = ((2 * i : Nat) : Int) := by omega
        have e2 : (m : Int) - 1 = (i : Int) := by omega
        have e3 : 2 * i < n := by omega
        have e4 : i < m := by omega
        clear hx0 hz hb0 hown HO hE hdone HST
        go_wp2
        go_ret
        exact ⟨rfl, hown2, hE2⟩
      · have hmm : m = i := by omega
        have hm2 : (n : Int).tmod 2 = 0 := by rw [Int.tmod_eq_emod_of_nonneg (by omega)]; omega
        have hm3 : (n : Int) % 2 = 0 := by omega
        subst hmm
        have hdone := HO.out.done HM.out
        rw [hdone] at hown
        clear hdone HO
        go_wp2
        go_ret
        exact ⟨rfl, hown, hE⟩

/-- The natural of limbs: noughts at the end are cut. -/
theorem trim32_calls (w : World) (v : Value) (xs : List Nat) (h : U w v xs) :
    Calls Tryz.prog 88 #[v] w fun e w' => (∃ u, e = .returned u ∧ Un w u (val xs)) ∧ w = w' := by
  have h' := h
  obtain ⟨A, c, rfl, ⟨hc, hm⟩, hx, hr⟩ := h
  go_enter Tryz.func88, Tryz.ntmps88
  go_wp2
  go_loop [3] (fun n => ∃ k : Nat, k ≤ xs.length ∧ n = .int .i64 k ∧ Hid (∀ j, k ≤ j → j < xs.length → lb xs j = 0)) (fun n => (intOf n).toNat)
  case atStart => exact ⟨xs.length, Nat.le_refl _, rfl, fun j h1 h2 => by omega⟩
  case round =>
    obtain ⟨k, hk, rfl, hz⟩ := hrel
    have hfin : ∀ c', k ≤ c' → (0 < k → lb xs (k - 1) ≠ 0) → Un w (.slice A k c') (val xs) := fun c' h1 h2 => by
      unfold Un; rw [strip_eq xs k hx hk hz.out h2]; exact h'.take hk h1
    rcases Nat.eq_zero_or_pos k with rfl | h0
    · have HF := Lib.hid (hfin 0 (Nat.le_refl _) (fun h => absurd h (by omega)))
      clear hfin
      go_wp2
      go_ways
      go_ret
      exact ⟨⟨_, rfl, HF.out⟩, rfl⟩
    · obtain ⟨ad, rfl, hb, hcell⟩ := hr (by omega)
      have hc1 := hcell (k - 1) (by omega)
      by_cases hx0 : lb xs (k - 1) = 0
      · have ht : ((((lb xs (k - 1) : Nat)) : Int) == 0) = true := by rw [hx0]; rfl
        have HX := Lib.hid hx0
        clear hx0
        go_wp2
        go_round
        case rel => exact ⟨k - 1, by omega, by go_num, fun j h1 h2 => by
          rcases Nat.lt_or_ge j k with h3 | h3
          · have : j = k - 1 := by omega
            subst this; exact HX.out
          · exact hz.out j h3 h2⟩
        case measure => simp [intOf]; omega
      · have ht : ((((lb xs (k - 1) : Nat)) : Int) == 0) = false := by rw [beq_eq_false_iff_ne]; omega
        have HF := Lib.hid (hfin k (Nat.le_refl _) (fun _ => hx0))
        clear hfin hx0
        go_wp2
        go_ret
        exact ⟨⟨_, rfl, HF.out⟩, rfl⟩

structure UnI (ws : List Nat) (m i : Nat) (o : List Nat) : Prop where
  len : o.length = m
  at_ : ∀ j, j < 2 * i → lb o j = lb (unpackL ws) j
theorem UnI.step {ws : List Nat} {m i : Nat} {o : List Nat} (h : UnI ws m i o) (hi : 2 * i + 1 < m) (x : Nat) (hx : lb ws i = x) : UnI ws m (i + 1) ((o.set (2 * i) (x % 4294967296)).set (2 * i + 1) (x / 4294967296)) := by
  refine ⟨by simp [h.len], fun j hj => ?_⟩
  have hu := lb_unpackL ws i
  rw [hx] at hu
  rw [lb_set _ _ _ _ (by rw [List.length_set, h.len]; exact hi), lb_set _ _ _ _ (by rw [h.len]; omega)]
  by_cases e : 2 * i + 1 = j
  · rw [if_pos e, ← e, hu.2]
  · rw [if_neg e]
    by_cases e2 : 2 * i = j
    · rw [if_pos e2, ← e2, hu.1]
    · rw [if_neg e2]; exact h.at_ j (by omega)
theorem UnI.done {ws : List Nat} {m i : Nat} {o : List Nat} (h : UnI ws m i o) (hm : (unpackL ws).length = m) (hi : 2 * i = m) : o = unpackL ws :=
  ext_lb (by rw [h.len, hm]) fun j hj => h.at_ j (by rw [hi, ← h.len]; exact hj)

set_option maxRecDepth 100000 in
set_option maxHeartbeats 4000000 in
theorem unpack_calls (w : World) (g0 : Nat) (v : Value) (ws : List Nat) (h : V g0 w v ws) (hl : ws.length ≤ 1000000) :
    Calls Tryz.prog 85 #[v] w fun e w' => (∃ u, e = .returned u ∧ Un w' u (wal ws)) ∧ Ext w w' := by
  obtain ⟨A, c, rfl, ⟨hc, hmx⟩, hx, hr⟩ := h
  obtain ⟨i0, hi, hz0, hz1, hz2⟩ := info_parts info32
  obtain ⟨n, hn⟩ : ∃ n, ws.length = n := ⟨_, rfl⟩
  rw [hn] at hc hmx hr hl ⊢
  obtain ⟨m, hm⟩ : ∃ m, 2 * n = m := ⟨_, rfl⟩
  have HM : Hid ((unpackL ws).length = m) := by rw [Hid, unpackL_len, hn]; exact hm
  have hmi : (2 : Int) * (n : Int) = (m : Int) := by omega
  obtain ⟨B, hB⟩ : ∃ B, w.heap.size = B := ⟨_, rfl⟩
  have hm1 : m ≤ 2000000 := by omega
  have HW := Lib.hid (unpackL_lt ws hx)
  have HV := Lib.hid (val_unpackL ws)
  have HTR := Lib.hid (fun W v h => trim32_calls W v (unpackL ws) h)
  clear hn
  go_enter Tryz.func85, Tryz.ntmps85
  go_wp2_with (at_make; refine wpList_make_full _ rfl _ _ 22 rfl w.heap.size 36 i0 (.int .u32 0) 1 Tryz.underlying22 hi hz0 hz1 _ _ _ _ m rfl rfl (by omega) (by omega) (by rw [hz2]; omega) (by unfold maxLen; omega) (Nat.le_refl _) ?_; intro w1 hown hgrow)
  have ho0 : Own w1 w.heap.size (.slice (some ⟨w.heap.size, 0, none⟩) m m) (List.replicate m 0) := by
    have := Own.zeros hown
    rwa [List.length_replicate] at this
  have hE0 : Ext w w1 := (Ext.refl w).grown hgrow (Nat.le_refl _) (fun _ h => by cases h)
  rw [hB] at ho0
  clear hown hgrow hi hz0 hz1 hz2 i0
  go_wp2
  go_loopw [12] (fun t wr => ∃ (i : Nat) (o : List Nat), i ≤ n ∧ t = .int .i64 (i : Nat) ∧ Hid (UnI ws m i o) ∧ Own wr B (.slice (some ⟨B, 0, none⟩) m m) o ∧ Ext w wr) (fun t _ => n - (intOf t).toNat)
  case atStart => exact ⟨0, _, Nat.zero_le _, rfl, ⟨by simp, fun j hj => absurd hj (by omega)⟩, ho0, hE0⟩
  case round =>
    clear ho0 hE0
    obtain ⟨i, o, hiq, rfl, HO, hown, hE⟩ := hrel
    by_cases hlt : i < n
    · obtain ⟨ad, rfl, hb, hne, hcell⟩ := hr (by omega)
      have hc0 := (hE.cell (p := ad.add i) (by rw [addr_add_block]; exact hb)).trans (hcell i hlt)
      have hb0 : lb ws i < 18446744073709551616 := lb_lt_of (by decide) hx i
      obtain ⟨x, hx0⟩ : ∃ x, lb ws i = x := ⟨_, rfl⟩
      rw [hx0] at hc0 hb0
      have HST : Hid (UnI ws m (i + 1) ((o.set (2 * i) (x % 4294967296)).set (2 * i + 1) (x / 4294967296))) := HO.out.step (by omega) x hx0
      have hol := HO.out.len
      have hf0 := hown.frozen' (2 * i)
      have hf1 := hown.frozen' (2 * i + 1)
      have hk0 := hown.rd.2 (2 * i) (by omega)
      have hk1 := hown.rd.2 (2 * i + 1) (by omega)
      have hown2 := (hown.set' (2 * i) (x % 4294967296)).set' (2 * i + 1) (x / 4294967296)
      have hE2 := (hE.setCell (p := ⟨B, 2 * i, none⟩) (by rw [hB]; exact Nat.le_refl _) (.int .u32 (x % 4294967296 : Nat))).setCell (p := ⟨B, 2 * i + 1, none⟩) (by rw [hB]; exact Nat.le_refl _) (.int .u32 (x / 4294967296 : Nat))
      obtain ⟨x0, hxx0⟩ : ∃ x0, x % 4294967296 = x0 := ⟨_, rfl⟩
      obtain ⟨x1, hxx1⟩ : ∃ x1, x / 4294967296 = x1 := ⟨_, rfl⟩
      rw [hxx0, hxx1] at HST hown2 hE2
      have f0 : IntKind.u32.wrap (x : Int) = (x0 : Int) := by rw [IntKind.wrap_u32]; omega
      have f00 : (x : Int) % 4294967296 = (x0 : Int) := by omega
      have f1 : (x : Int) / 4294967296 = (x1 : Int) := by omega
      have hx1b : x1 < 4294967296 := by omega
      have f2 : IntKind.u32.wrap (x1 : Int) = (x1 : Int) := by rw [IntKind.wrap_u32]; omega
      have f3 : (x1 : Int) % 4294967296 = (x1 : Int) := by omega
      have h2a : (0 : Int) ≤ 2 * (i : Int) := by omega
      have h2b : 2 * (i : Int) < (m : Int) := by omega
      have h2c : 2 * (i : Int) + 1 < (m : Int) := by omega
      have h2d : (2 * (i : Int)).toNat = 2 * i := by omega
      have h2e : (2 * (i : Int) + 1).toNat = 2 * i + 1 := by omega
      have hbn : (ad.add i).block ≠ B := by rw [addr_add_block]; omega
      clear hx0 hb0 hxx0 hxx1 hown HO hE hol
      go_wp2
      go_roundw
      case rel => exact ⟨i + 1, _, by omega, by go_num, HST, hown2, hE2⟩
      case measure => simp [intOf]; omega
    · obtain rfl : i = n := by omega
      have hdone := HO.out.done HM.out hm
      rw [hdone] at hown
      have hu := hown.toU HW.out (by rw [HM.out]; omega)
      clear hdone HO hown
      go_wp2_with (fail)
      refine (HTR.out _ _ hu).mono ?_
      rintro e w2 ⟨⟨u, rfl, hu2⟩, rfl⟩
      rw [HV.out] at hu2
      have HF : Hid (∃ u', Ending.returned u = .returned u' ∧ Un wr u' (wal ws)) := ⟨_, rfl, hu2⟩
      clear hu2 hu
      go_wp2
      go_ret
      exact ⟨HF.out, hE⟩
end Go.Proofs.YtbdmncpibnligaaGreatDoor
