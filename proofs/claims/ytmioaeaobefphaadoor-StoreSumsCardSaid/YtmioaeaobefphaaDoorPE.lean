/- Plain steps, as many as follow one another. -/
import Derived.Test.YtmioaeaobefphaaDoorPN
namespace Go.Proofs.YtmioaeaobefphaaDoor.Pl
open Go
set_option linter.unusedVariables false

/-! Plain operations, as many as follow one another, by looking alone. -/
def plainV (l : List (Nat × Value)) : Op → Option Value
  | .move x => opv l x
  | .assign x => opv l x
  | .pick c x y => match opv l c with
    | some (.bool true) => opv l x
    | some (.bool false) => opv l y
    | _ => none
  | .extract x ix => match opv l x with
    | some (.tuple t) => t[ix]?
    | _ => none
  | _ => none
def plain (L : List Oper) (l : List (Nat × Value)) (o : Oper) : Option Value := match gd L l o.guard with
  | some true => plainV l o.op
  | some false => some undef
  | none => none
def adv (L : List Oper) : List (Bool × Nat × Nat) → List (Nat × Value) → List (Bool × Nat × Nat) × List (Nat × Value)
  | [], l => ([], l)
  | (k, i, m) :: r, l => match nth L i with
    | none => ((k, i, m) :: r, l)
    | some o => match o.dst with
      | none => ((k, i, m) :: r, l)
      | some d => match plain L l o with
        | none => ((k, i, m) :: r, l)
        | some v => adv L r ((d, v) :: l)
section
variable {P : Program} {L : List Oper} {S : World → Prop} {K : List (Nat × Value) → World → Prop}
theorem plainV_run {l : List (Nat × Value)} {o : Oper} {v : Value} (h : plainV l o.op = some v) (ρ : Operand → Value) (hρ : Cons ρ l) (X : World) : (execOp ρ o).run P X = .ok (.value v) X := by
  unfold execOp
  cases ho : o.op <;> rw [ho] at h <;> simp only [plainV] at h <;> try (cases h; done)
  case move x => show Result.ok (Next.value (ρ x)) X = _; rw [hρ.opv h]
  case assign x => show Result.ok (Next.value (ρ x)) X = _; rw [hρ.opv h]
  case pick c x y =>
    split at h
    · next hc =>
      show (asBool (ρ c) >>= fun t => pure (Next.value (if t then ρ x else ρ y))).run P X = _
      rw [hρ.opv hc, hρ.opv h |>.symm]; rfl
    · next hc =>
      show (asBool (ρ c) >>= fun t => pure (Next.value (if t then ρ x else ρ y))).run P X = _
      rw [hρ.opv hc, hρ.opv h |>.symm]; rfl
    · cases h
  case extract x ix =>
    split at h
    · next hx => exact run_val _ X (by rw [hρ.opv hx]; simp [Instr.extract, h])
    · cases h
theorem wpA_adv : ∀ (r : List (Bool × Nat × Nat)) (l : List (Nat × Value)) {w : World}, S w → wpA P L S K (adv L r l).1 (adv L r l).2 w → wpA P L S K r l w
  | [], l, w, _, h => h
  | (k, i, m) :: r, l, w, hS, h => by
    unfold adv at h
    split at h
    · exact h
    · next o ho =>
      split at h
      · exact h
      · next d hd =>
        split at h
        · exact h
        · next v hv =>
          have ih := wpA_adv r _ hS h
          unfold plain at hv
          split at hv
          · next hg => exact pA_pure hS ho hd hg (fun ρ hρ X _ => plainV_run hv ρ hρ X) ih
          · next hg => cases hv; exact pA_skip ho hd hg ih
          · cases hv
/-- All plain operations that come first. -/
theorem qA_go {r r' : List (Bool × Nat × Nat)} {l l' : List (Nat × Value)} {w : World} (hS : S w) (e : adv L r l = (r', l')) (h : wpA P L S K r' l' w) : wpA P L S K r l w := wpA_adv r l hS (by rw [e]; exact h)
end
end Go.Proofs.YtmioaeaobefphaaDoor.Pl
