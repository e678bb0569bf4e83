/- The contracts in one form: whatever lay lies as it lay; the results as the callers ask for them. -/
import Derived.Test.YtnjkdplhoihkiaaA4
import Derived.Test.YtnjkdplhoihkiaaA5
import Derived.Test.YtnjkdplhoihkiaaR2
namespace Go.Proofs.Ytnjkdplhoihkiaa
open Go.RowKit
set_option linter.unusedVariables false

/-- The world b is a with more in it: whatever lay lies as it lay. -/
def Ext (a b : World) : Prop := Below a.heap.size a b
theorem Ext.refl (w : World) : Ext w w := Below.refl _ _
theorem Ext.alloc {a b : World} (h : Ext a b) (o : Obj) : Ext a (b.alloc o) := Below.alloc h h.size o
theorem Ext.below {a b c : World} (h : Ext a b) (k : Ext b c) : Ext a c := Below.trans h (Below.mono k h.size)
theorem U.alloc {w : World} {v : Value} {xs : List Nat} (h : U w v xs) (o : Obj) : U (w.alloc o) v xs := U.below h ((Ext.refl w).alloc o)
theorem Un.alloc {w : World} {v : Value} {n : Nat} (h : Un w v n) (o : Obj) : Un (w.alloc o) v n := U.alloc h o
theorem U.un {w : World} {v : Value} {xs : List Nat} {n : Nat} (h : U w v xs) (e : limbs n = xs) : Un w v n := by rw [Un, e]; exact h
theorem lim {n : Nat} (xs : List Nat) (hv : val xs = n) (hx : ∀ x ∈ xs, x < 4294967296) (hl : xs ≠ [] → xs[xs.length - 1]?.getD 0 ≠ 0) : limbs n = xs := by rw [← hv]; exact limbs_val xs hx hl
theorem U_lit (w : World) (xs : List Nat) (hx : ∀ x ∈ xs, x < 4294967296) (hm : xs.length ≤ 1000000) : U (w.alloc (.cells (L32 xs).toArray 37)) (.slice (some ⟨w.heap.size, 0, none⟩) xs.length xs.length) xs := by
  refine Own.toU (base := w.heap.size) ?_ hx (by omega)
  have := World.ownsRow_lit (base := w.heap.size) (e := 37) (size := 1) w (L32 xs).toArray xs.length (Nat.le_refl _) (by unfold maxLen; omega) (by simp [L32_length])
  simpa [Own] using this
theorem Un_nil (w : World) : Un w (.slice none 0 0) 0 := by rw [Un, limbs_zero]; exact U.nil_ _ _ _

theorem ext_drewN (w : World) (n : Nat) : Ext w (w.drewN n) := ⟨rfl, rfl, rfl, Nat.le_refl _, fun _ _ => rfl⟩

theorem same_B (w : World) (v u : Value) (xs ys : List Nat) (h : U w v xs) (g : U w u ys) (b : Bool) (hb : decide (xs = ys) = b) :
    Calls Try.prog 15 #[v, u] w fun e w' => e = .returned (.bool b) ∧ Ext w w' :=
  (same_calls w v u xs ys h g).mono fun e w' ⟨he, n, hw⟩ => ⟨by rw [he, hb], by rw [hw]; exact ext_drewN w n⟩
theorem right_B (w : World) (v : Value) (xs : List Nat) (h : U w v xs) (b : Bool) (hb : rightB xs = b) :
    Calls Try.prog 13 #[v] w fun e w' => e = .returned (.bool b) ∧ Ext w w' :=
  (right_calls w v xs h).mono fun e w' ⟨he, hw⟩ => ⟨by rw [he, hb], by rw [← hw]; exact Ext.refl w⟩
theorem make_B (w : World) (v : Value) (xs : List Nat) (h : U w v xs) (n : Nat) (hn : val xs = n) :
    Calls Try.prog 16 #[v] w fun e w' => ∃ u, e = .returned u ∧ Un w' u n ∧ Ext w w' :=
  (make_calls w v xs h).mono fun e w' ⟨⟨u, he, hu⟩, hw⟩ => ⟨u, he, by rw [← hw, Un, ← hn]; exact hu, by rw [← hw]; exact Ext.refl w⟩
theorem of_B (w : World) (k : Int) (h0 : 0 ≤ k) (h1 : k < 18446744073709551616) (n : Nat) (hn : k.toNat = n) :
    Calls Try.prog 35 #[.int .u64 k] w fun e w' => ∃ u, e = .returned u ∧ Un w' u n ∧ Ext w w' := by
  subst hn
  have := of_calls w k.toNat (by omega)
  rw [show ((k.toNat : Nat) : Int) = k by omega] at this
  exact this.mono fun e w' ⟨⟨u, he, hu⟩, hb⟩ => ⟨u, he, hu, hb⟩
theorem low_B (w : World) (v : Value) (n : Nat) (h : Un w v n) (k : Int) (b : Bool) (hk : ((lowN n : Nat) : Int) = k) (hb : lowB n = b) :
    Calls Try.prog 20 #[v] w fun e w' => e = .returned (.tuple #[.int .u64 k, .bool b]) ∧ Ext w w' :=
  (low_calls w v n h).mono fun e w' ⟨he, hw⟩ => ⟨by rw [he, hk, hb], by rw [← hw]; exact Ext.refl w⟩
theorem bits_B (w : World) (v : Value) (n : Nat) (h : Un w v n) (hl : (limbs n).length ≤ 1000000000) (k : Int) (hk : ((blen n : Nat) : Int) = k) :
    Calls Try.prog 26 #[v] w fun e w' => e = .returned (.int .i64 k) ∧ Ext w w' :=
  (bits_calls w v n h hl).mono fun e w' ⟨he, hw⟩ => ⟨by rw [he, hk], by rw [← hw]; exact Ext.refl w⟩
theorem bit_B (w : World) (v : Value) (n : Nat) (i : Int) (h : Un w v n) (hi0 : -9000000000000 ≤ i) (hi1 : i ≤ 9000000000000) (k : Int) (hk : ((bitN n i : Nat) : Int) = k) :
    Calls Try.prog 28 #[v, .int .i64 i] w fun e w' => e = .returned (.int .u32 k) ∧ Ext w w' :=
  (bit_calls w v n i hi0 hi1 h).mono fun e w' ⟨he, hw⟩ => ⟨by rw [he, hk], by rw [← hw]; exact Ext.refl w⟩
theorem cmp_B (w : World) (v u : Value) (n m : Nat) (h : Un w v n) (g : Un w u m) (k : Int) (hk : cmpI n m = k) :
    Calls Try.prog 24 #[v, u] w fun e w' => e = .returned (.int .i64 k) ∧ Ext w w' :=
  (cmp_calls w v u n m h g).mono fun e w' ⟨he, hw⟩ => ⟨by rw [he, hk], hw⟩
theorem add_B (w : World) (v u : Value) (n m : Nat) (h : Un w v n) (g : Un w u m) (hm : (limbs n).length ≤ 1000000000) (hm2 : (limbs m).length ≤ 1000000000) (s : Nat) (hs : n + m = s) :
    Calls Try.prog 22 #[v, u] w fun e w' => ∃ z, e = .returned z ∧ Un w' z s ∧ Ext w w' := by
  subst hs
  have := add_calls w v u _ _ h g hm hm2
  rw [val_limbs, val_limbs] at this
  exact this.mono fun e w' ⟨⟨z, he, hz⟩, hb⟩ => ⟨z, he, hz, hb⟩
theorem sub_B (w : World) (v u : Value) (n m : Nat) (h : Un w v n) (g : Un w u m) (hm : (limbs n).length ≤ 1000000000) (b : Bool) (hb : decide (m ≤ n) = b) (d : Nat) (hd : n - m = d) :
    Calls Try.prog 18 #[v, u] w fun e w' => ∃ z, e = .returned (.tuple #[z, .bool b]) ∧ Un w' z d ∧ Ext w w' := by
  subst hd hb
  exact (sub_calls w v u n m h g hm).mono fun e w' ⟨⟨z, he, hz⟩, hb⟩ => ⟨z, he, hz, hb⟩
theorem shl_B (w : World) (v : Value) (n : Nat) (k : Int) (h : Un w v n) (hk0 : 0 ≤ k) (hk1 : k ≤ 1000000000) (hl : (limbs n).length ≤ 1000000000) (s : Nat) (hs : n * 2 ^ k.toNat = s) :
    Calls Try.prog 30 #[v, .int .i64 k] w fun e w' => ∃ u, e = .returned u ∧ Un w' u s ∧ Ext w w' := by
  subst hs
  exact (shl_calls w v n k hk0 hk1 h hl).mono fun e w' ⟨⟨u, he, hu⟩, hb⟩ => ⟨u, he, hu, hb⟩
theorem shr_B (w : World) (v : Value) (n : Nat) (k : Int) (h : Un w v n) (hk0 : 0 ≤ k) (hk1 : k ≤ 1000000000) (hl : (limbs n).length ≤ 1000000000) (s : Nat) (hs : n / 2 ^ k.toNat = s) :
    Calls Try.prog 32 #[v, .int .i64 k] w fun e w' => ∃ u, e = .returned u ∧ Un w' u s ∧ Ext w w' := by
  subst hs
  exact (shr_calls w v n k hk0 hk1 h hl).mono fun e w' ⟨⟨u, he, hu⟩, hb⟩ => ⟨u, he, hu, hb⟩
theorem made_B (w : World) (v : Value) (xs : List Nat) (k : Int) (h : U w v xs) (hk0 : 0 ≤ k) (hk1 : k ≤ 1000000000) (n : Nat) (hn : cutN xs k.toNat = n) :
    Calls Try.prog 34 #[v, .int .i64 k] w fun e w' => ∃ u, e = .returned u ∧ Un w' u n ∧ Ext w w' := by
  subst hn
  exact (made_calls w v xs k hk0 hk1 h).mono fun e w' ⟨⟨u, he, hu⟩, hb⟩ => ⟨u, he, hu, hb⟩
end Go.Proofs.Ytnjkdplhoihkiaa
