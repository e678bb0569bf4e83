/- append as one step: a rule that the walk takes before it opens the builtin. -/
import Derived.Test.YtnjkdplhoihkiaaW4
namespace Go.Proofs.Ytnjkdplhoihkiaa
open Go.RowKit
set_option linter.unusedVariables false

def okV (r : Result Value) : Value := match r with | .ok v _ => v | _ => undef
def okW (w : World) (r : Result Value) : World := match r with | .ok _ w' => w' | _ => w
/-- The append runs to its end. -/
def AppOk (P : Program) (t ty : TypeId) (s x : Value) (w : World) : Prop := ∃ v w', (Builtin.append_ #[t, t] ty #[s, x]).run P w = .ok v w'
/-- What it hands back, and the world that it leaves. -/
def AV (P : Program) (t ty : TypeId) (s x : Value) (w : World) : Value := okV ((Builtin.append_ #[t, t] ty #[s, x]).run P w)
def AW (P : Program) (t ty : TypeId) (s x : Value) (w : World) : World := okW w ((Builtin.append_ #[t, t] ty #[s, x]).run P w)
/-- The builtin, shut. -/
def AppS (ts : Array TypeId) (ty : TypeId) (args : Array Value) : Sem Value := Builtin.append_ ts ty args
theorem app_shut (ts : Array TypeId) (ty : TypeId) (args : Array Value) : Builtin.append_ ts ty args = AppS ts ty args := rfl
theorem run_append_tok {P : Program} {t ty : TypeId} {s x : Value} {w : World} (h : AppOk P t ty s x w) :
    (AppS #[t, t] ty #[s, x]).run P w = .ok (AV P t ty s x w) (AW P t ty s x w) := by
  obtain ⟨v, w', h⟩ := h
  unfold AV AW AppS
  rw [h]
  rfl
theorem app_tok {P : Program} {t ty : TypeId} {s x : Value} {w : World} {v : Value} {w' : World} (h : (Builtin.append_ #[t, t] ty #[s, x]).run P w = .ok v w') :
    AppOk P t ty s x w ∧ AV P t ty s x w = v ∧ AW P t ty s x w = w' := by
  refine ⟨⟨v, w', h⟩, ?_, ?_⟩
  · unfold AV; rw [h]; rfl
  · unfold AW; rw [h]; rfl

theorem run_append_none {P : Program} (w : World) (base : Nat) (t ty e : TypeId) (i : TypeInfo) (size : Nat) (ht : P.underlying t = some (.slice e)) (hi : P.info? e = some i)
    (v : Value) (n c : Nat) (xs : List Value) (hown : w.ownsRow base e size v n xs) :
    (Builtin.append_ #[t, t] ty #[v, .slice none 0 c]).run P w = .ok v w := by
  rcases hown.2 with ⟨rfl, rfl⟩ | ⟨g, cap, cur, rfl, _, _, hnc, _⟩
  · simp [Builtin.append_, run_underlying ht, sizeOf, typeInfo, hi, Builtin.lenOf, Builtin.firstCells]
  · simp [Builtin.append_, run_underlying ht, sizeOf, typeInfo, hi, Builtin.lenOf, Builtin.firstCells, hnc, storeCells]

/-- Limbs of a slice appended to a row of the call's own. -/
theorem run_append_U (w : World) (base : Nat) (v : Value) (o : List Nat) (hown : Own w base v o) (x : Value) (ys : List Nat) (hx : U w x ys) (hlen : o.length + ys.length ≤ 35184372088832) (hbase : base ≤ w.heap.size) :
    ∃ v' w', (Builtin.append_ #[22, 22] 22 #[v, x]).run Try.prog w = .ok v' w' ∧ Own w' base v' (o ++ ys) ∧ w.grownBy w' v.ownBlock := by
  obtain ⟨i0, hi, hz0, hz1, hz2⟩ := info_parts info37
  obtain ⟨A, c, rfl, ⟨h1, h2⟩, hlt, hr⟩ := hx
  cases A with
  | none =>
    have h0 : ys.length = 0 := by
      rcases Nat.eq_zero_or_pos ys.length with h0 | h0
      · exact h0
      · obtain ⟨ad, h, _⟩ := hr h0; cases h
    obtain rfl := List.eq_nil_of_length_eq_zero h0
    refine ⟨v, w, run_append_none w base 22 22 37 i0 1 Try.underlying22 hi v _ c _ hown, by rw [List.append_nil]; exact hown, World.grownBy.refl w _⟩
  | some ad =>
    have hcells : ∀ j u, (L32 ys)[j]? = some u → w.cell? (ad.add j) = some u := fun j u hj => by
      have hjl : j < ys.length := by
        rcases Nat.lt_or_ge j ys.length with h | h
        · exact h
        · rw [List.getElem?_eq_none (by rw [L32_length]; exact h)] at hj; cases hj
      obtain ⟨ad', e', _, hcell⟩ := hr (by omega)
      injection e' with e'
      subst e'
      rw [hcell j hjl, ← L32_get ys hjl, hj]
    obtain ⟨v', w', hrun, hown', hg, _⟩ := run_append_own (P := Try.prog) w base 22 22 37 i0 (.int .u32 0) 1 4 Try.underlying22 hi hz0 hz1 hz2 rfl (by decide) v o.length (L32 o) hown ad ys.length c (L32 ys) (by rw [L32_length, Nat.mul_one]) hcells
      (by intro u hu; obtain ⟨z, _, rfl⟩ := List.mem_map.1 hu; rfl) (by unfold maxLen; omega) (by omega) hbase
    exact ⟨v', w', hrun, by unfold Own; rw [L32_append, List.length_append]; exact hown', hg⟩
end Go.Proofs.Ytnjkdplhoihkiaa
