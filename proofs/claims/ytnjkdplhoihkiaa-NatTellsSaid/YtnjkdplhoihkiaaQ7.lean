/- The contracts of the document's own functions, in one form. -/
import Derived.Test.YtnjkdplhoihkiaaQ6
namespace Go.Proofs.Ytnjkdplhoihkiaa
open Go.RowKit
set_option linter.unusedVariables false

theorem rright_B (w : World) (v : Value) (xs : List Nat) (h : U w v xs) (b : Bool) (hb : rightB xs = b) :
    Calls Try.prog 14 #[v] w fun e w' => e = .returned (.bool b) ∧ Ext w w' :=
  (rright_calls w v xs h).mono fun e w' ⟨he, hw⟩ => ⟨by rw [he, hb], by rw [← hw]; exact Ext.refl w⟩
theorem rmake_B (w : World) (v : Value) (xs : List Nat) (h : U w v xs) (hl : xs.length ≤ 1000000000) (n : Nat) (hn : val xs = n) :
    Calls Try.prog 17 #[v] w fun e w' => ∃ u, e = .returned u ∧ Un w' u n ∧ Ext w w' :=
  (rmake_calls w v xs h hl).mono fun e w' ⟨⟨u, he, hu⟩, hw⟩ => ⟨u, he, by rw [Un, ← hn]; exact hu, hw⟩
theorem rlow_B (w : World) (v : Value) (n : Nat) (h : Un w v n) (k : Int) (b : Bool) (hk : ((lowN n : Nat) : Int) = k) (hb : lowB n = b) :
    Calls Try.prog 21 #[v] w fun e w' => e = .returned (.tuple #[.int .u64 k, .bool b]) ∧ Ext w w' :=
  (rlow_calls w v n h).mono fun e w' ⟨he, hw⟩ => ⟨by rw [he, hk, hb], by rw [← hw]; exact Ext.refl w⟩
theorem rbits_B (w : World) (v : Value) (n : Nat) (h : Un w v n) (hl : (limbs n).length ≤ 1000000000) (k : Int) (hk : ((blen n : Nat) : Int) = k) :
    Calls Try.prog 27 #[v] w fun e w' => e = .returned (.int .i64 k) ∧ Ext w w' :=
  (rbits_calls w v n h hl).mono fun e w' ⟨he, m, hw⟩ => ⟨by rw [he, hk], by rw [hw]; exact ext_drewN w m⟩
theorem rbit_B (w : World) (v : Value) (n : Nat) (i : Int) (h : Un w v n) (hi0 : -9000000000000 ≤ i) (hi1 : i ≤ 9000000000000) (k : Int) (hk : ((bitN n i : Nat) : Int) = k) :
    Calls Try.prog 29 #[v, .int .i64 i] w fun e w' => e = .returned (.int .u32 k) ∧ Ext w w' :=
  (rbit_calls w v n i hi0 hi1 h).mono fun e w' ⟨he, hw⟩ => ⟨by rw [he, hk], by rw [← hw]; exact Ext.refl w⟩
theorem rcmp_B (w : World) (v u : Value) (n m : Nat) (h : Un w v n) (g : Un w u m) (hl : (limbs n).length ≤ 1000000000) (hl2 : (limbs m).length ≤ 1000000000) (k : Int) (hk : cmpI n m = k) :
    Calls Try.prog 25 #[v, u] w fun e w' => e = .returned (.int .i64 k) ∧ Ext w w' :=
  (rcmp_calls w v u _ _ h g hl hl2).mono fun e w' ⟨he, hw⟩ => ⟨by rw [he, val_limbs, val_limbs, hk], by rw [← hw]; exact Ext.refl w⟩
theorem radd_B (w : World) (v u : Value) (n m : Nat) (h : Un w v n) (g : Un w u m) (hm : (limbs n).length ≤ 100000000) (hm2 : (limbs m).length ≤ 100000000) (s : Nat) (hs : n + m = s) :
    Calls Try.prog 23 #[v, u] w fun e w' => ∃ z, e = .returned z ∧ Un w' z s ∧ Ext w w' := by
  subst hs
  have := radd_calls w v u _ _ h g hm hm2
  rw [val_limbs, val_limbs] at this
  exact this.mono fun e w' ⟨⟨z, he, hz⟩, hb⟩ => ⟨z, he, hz, hb⟩
theorem rsub_B (w : World) (v u : Value) (n m : Nat) (h : Un w v n) (g : Un w u m) (hm : (limbs n).length ≤ 100000000) (hm2 : (limbs m).length ≤ 100000000) (b : Bool) (hb : decide (m ≤ n) = b) (d : Nat) (hd : n - m = d) :
    Calls Try.prog 19 #[v, u] w fun e w' => ∃ z, e = .returned (.tuple #[z, .bool b]) ∧ Un w' z d ∧ Ext w w' :=
  (rsub_calls w v u n m h g hm hm2 b hb d hd).mono fun e w' ⟨⟨z, he, hz⟩, hb⟩ => ⟨z, he, hz, hb⟩
theorem rshl_B (w : World) (v : Value) (n : Nat) (k : Nat) (h : Un w v n) (hk1 : k ≤ 100000000) (hl : (limbs n).length ≤ 100000000) (s : Nat) (hs : n * 2 ^ k = s) :
    Calls Try.prog 31 #[v, .int .i64 (k : Int)] w fun e w' => ∃ z, e = .returned z ∧ Un w' z s ∧ Ext w w' := by
  subst hs
  exact (rshl_calls w v n k hk1 h hl).mono fun e w' ⟨⟨z, he, hz⟩, hb⟩ => ⟨z, he, hz, hb⟩
theorem rshr_B (w : World) (v : Value) (n : Nat) (k : Nat) (h : Un w v n) (hk1 : k ≤ 100000000) (hl : (limbs n).length ≤ 100000000) (s : Nat) (hs : n / 2 ^ k = s) :
    Calls Try.prog 33 #[v, .int .i64 (k : Int)] w fun e w' => ∃ z, e = .returned z ∧ Un w' z s ∧ Ext w w' := by
  subst hs
  exact (rshr_calls w v n k hk1 h hl).mono fun e w' ⟨⟨z, he, hz⟩, hb⟩ => ⟨z, he, hz, hb⟩
end Go.Proofs.Ytnjkdplhoihkiaa
