/- Sums of products of rows of which one is short. -/
import Derived.Test.YtofhpfmgopmcmaaDoorH3
namespace Go.Proofs.YtofhpfmgopmcmaaDoor
open Go.RowKit
set_option linter.unusedVariables false
set_option maxHeartbeats 400000

/-- All sums; none where a row is empty. -/
def cvs (a b : List Nat) : List Nat := if a.length = 0 ∨ b.length = 0 then [] else conv a b
theorem cvs_nil (a b : List Nat) (h : a.length = 0 ∨ b.length = 0) : cvs a b = [] := if_pos h
theorem cvs_pos (a b : List Nat) (ha : 0 < a.length) (hb : 0 < b.length) : cvs a b = conv a b := if_neg (by omega)
theorem conv_empty (w : World) (v u : Value) (a b : List Nat) (h : U w v a) (g : U w u b) (he : a.length = 0 ∨ b.length = 0) :
    Calls Tryd.prog 19 #[v, u] w fun e w' => e = .returned (.slice none 0 0) ∧ w = w' := by
  obtain ⟨A, c, rfl, _⟩ := h.shape
  obtain ⟨A2, c2, rfl, _⟩ := g.shape
  clear h g
  generalize a.length = na at *
  generalize b.length = nb at *
  by_cases h0 : na = 0
  · subst h0
    go_enter Tryd.func19, Tryd.ntmps19
    go_wp2
    go_ret
    exact ⟨rfl, rfl⟩
  · have hb : nb = 0 := by omega
    subst hb
    have hz : (((na : Nat) : Int) == 0) = false := by rw [beq_eq_false_iff_ne]; omega
    clear he h0
    go_enter Tryd.func19, Tryd.ntmps19
    go_wp2
    go_ret
    exact ⟨rfl, rfl⟩
theorem conv_small (w : World) (v u : Value) (a b : List Nat) (h : U w v a) (g : U w u b) (hal : a.length ≤ 1000000) (hbl : b.length ≤ 1000000) (hs : min a.length b.length ≤ 24) :
    Calls Tryd.prog 19 #[v, u] w fun e w' => (∃ z, e = .returned z ∧ U3 w' z (cvs a b)) ∧ Ext w w' := by
  by_cases he : a.length = 0 ∨ b.length = 0
  · exact (conv_empty w v u a b h g he).mono fun e w' ⟨h1, h2⟩ => ⟨⟨_, h1, by rw [cvs_nil a b he]; exact U3.nil_ _ _ _⟩, by rw [← h2]; exact Ext.refl w⟩
  · have ha0 : 0 < a.length := by omega
    have hb0 : 0 < b.length := by omega
    have HD := Lib.hid (direct_calls w v u a b h g ha0 hb0 hal hbl)
    rw [cvs_pos a b ha0 hb0]
    obtain ⟨A, c, rfl, _⟩ := h.shape
    obtain ⟨A2, c2, rfl, _⟩ := g.shape
    clear h g
    generalize a.length = na at *
    generalize b.length = nb at *
    have hz : (((na : Nat) : Int) == 0) = false := by rw [beq_eq_false_iff_ne]; omega
    have hz2 : (((nb : Nat) : Int) == 0) = false := by rw [beq_eq_false_iff_ne]; omega
    obtain ⟨m, hm⟩ : ∃ m, min na nb = m := ⟨_, rfl⟩
    have hmi : min ((na : Nat) : Int) ((nb : Nat) : Int) = (m : Int) := by omega
    have hm24 : m ≤ 24 := by omega
    have hmd : decide ((m : Int) ≤ 24) = true := by rw [decide_eq_true_iff]; omega
    clear hs
    clear he
    go_enter Tryd.func19, Tryd.ntmps19
    go_wp2_with (fail)
    all_goals
      refine HD.out.mono ?_
      rintro e w1 ⟨⟨gg, rfl, ho⟩, hB⟩
      have hU := ho.toU
      clear ho
      generalize (conv a b).length = n at *
      have HF : Hid (∃ z, Ending.returned (.slice (some ⟨gg, 0, none⟩) n n) = .returned z ∧ U3 w1 z (conv a b)) := ⟨_, rfl, hU⟩
      clear hU
      go_wp2
      go_ret
      exact ⟨HF.out, hB⟩
end Go.Proofs.YtofhpfmgopmcmaaDoor
