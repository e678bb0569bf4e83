/- What the laws share. -/
import Derived.Test.YtmioaeaobefphaaDoorBap

namespace Go.Proofs.YtmioaeaobefphaaDoor
open Go.RowKit 
set_option linter.unusedVariables false
set_option linter.unusedSimpArgs false
set_option maxRecDepth 100000
set_option maxHeartbeats 4000000
section
variable {L : List Oper} {S : World → Prop} {K : List (Nat × Value) → World → Prop} {i m d : Nat} {o : Oper} {x y : Operand} {r : List (Bool × Nat × Nat)} {l : List (Nat × Value)} {w : World} {v : Value}
theorem qA_fsw {lo : Nat} {bs : T.Byt} (h0 : By w lo v bs) (hS : S w) (ho : Pl.nth L i = some o) (hop : o.op = .convert 22 9 x) (hd : o.dst = some d) (hg : Pl.gd L l o.guard = some true) (hx : Pl.opv l x = some v)
    (h : Pl.wpA Tryd.prog L S K r ((d, .string (mkS bs)) :: l) w) : Pl.wpA Tryd.prog L S K ((false, i, m) :: r) l w :=
  Pl.pA_val ho hd hg (fun ρ hρ => by unfold execOp; rw [hop]; exact Pl.run_valW _ (by rw [hρ.opv hx]; exact conv_from h0)) hS h
end
theorem eqS {a b : T.Byt} (h : a = b) {x y : Operand} (X : World) : Pl.Bn Tryd.prog .eql 9 x y (.string (mkS a)) (.string (mkS b)) X = .ok (.bool true) X := by
  subst h; unfold Pl.Bn; go_simp
theorem T.made_may (l : List T.Ent) (k : Nat) : ∀ e ∈ T.made l k, T.May e := fun e he => by
  obtain ⟨x, _, rfl⟩ := List.mem_map.1 he
  exact T.fit_may x
theorem T.recs_le (k : Nat) : ∀ (l : List T.Ent), (∀ e ∈ l, (T.recd e).length ≤ k) → (T.recs l).length ≤ l.length * k
  | [], _ => by simp [T.recs]
  | e :: l, h => by
    have h1 := T.recs_le k l fun x hx => h x (by simp [hx])
    have h2 := h e (by simp)
    show (T.recs ([e] ++ l)).length ≤ _
    rw [T.recs_append, T.recs_one, List.length_append, List.length_cons, Nat.add_mul, Nat.one_mul]
    omega
theorem T.fit_len (x : T.Ent) : (T.recd (T.fit x)).length ≤ 229 := by
  obtain ⟨_, h2, _⟩ := T.fit_may x
  have h3 : (T.fit x).2.length ≤ 200 := by unfold T.fit; simp only [List.length_take]; omega
  rw [T.recd_len]; omega
theorem T.made_len (l : List T.Ent) (k : Nat) : (T.made l k).length ≤ k := by unfold T.made; rw [List.length_map, List.length_take]; omega
theorem T.made_recs (l : List T.Ent) (k : Nat) : (T.recs (T.made l k)).length ≤ k * 229 := by
  refine Nat.le_trans (T.recs_le 229 _ fun e he => ?_) (Nat.mul_le_mul_right _ (T.made_len l k))
  obtain ⟨x, _, rfl⟩ := List.mem_map.1 he
  exact T.fit_len x
theorem read_recs (w : World) {v : Value} {lo : Nat} {M : List T.Ent} (h : By w lo v (T.recs M)) (hg : Gl w) (hM : ∀ e ∈ M, T.May e) (hm : (T.recs M).length ≤ 100000000) :
    Calls Tryd.prog 14 #[v] w fun e w' => ∃ rv, e = .returned (.tuple #[rv, .int .i64 (((T.recs M).length : Nat) : Int), .int .i64 0]) ∧ Es w' w.heap.size rv M ∧ Pl.Ex w w' := by
  have := read_calls w h hg hm
  rw [T.rd_all M hM] at this; exact this
theorem repair_recs (w : World) {v : Value} {lo : Nat} {M : List T.Ent} (h : By w lo v (T.recs M)) (hg : Gl w) (hM : ∀ e ∈ M, T.May e) (hm : (T.recs M).length ≤ 100000000) :
    Calls Tryd.prog 19 #[v] w fun e w' => ∃ v', e = .returned v' ∧ By w' w.heap.size v' (T.recs M) ∧ Pl.Ex w w' := by
  have := repair_calls w h hg hm
  rw [T.rd_all M hM] at this
  exact this.mono fun e w' ⟨v', h1, h2, h3⟩ => ⟨v', h1, by rw [List.take_length] at h2; exact Gy.by h2 (by omega), h3⟩
theorem r_neqb {a b : Bool} (c : Bool) (h : (a != b) = c) {x y : Operand} (X : World) : Pl.Bn Tryd.prog .neq 4 x y (.bool a) (.bool b) X = .ok (.bool c) X := by
  subst h; unfold Pl.Bn; cases a <;> cases b <;> go_simp
theorem cE_append (a b : List T.Ent) : cE (a ++ b) = cE a ++ cE b := by simp [cE]
theorem Ge.app2 {w : World} {base : Nat} {v : Value} {a b : List T.Ent} (h : Pl.Gr (fun _ => True) w base 24 2 v (a.length + b.length) (cE a ++ cE b)) : Ge w base v (a ++ b) := by
  unfold Ge; rw [List.length_append, cE_append]; exact h
theorem Es.src {w : World} {lo : Nat} {v : Value} {l : List T.Ent} (h : Es w lo v l) : Src Tryd.prog 2 29 v l.length (cE l) w := Pl.Sl.src h (cE_len l) Tryd.underlying29 (cE_one l) (by decide)
theorem Es.cb {w : World} {N : Nat} {x : T.Ent} (h : Pl.Cb w N 24 [.string (mkS x.1), .string (mkS x.2)]) : Es w N (.slice (some ⟨N, 0, none⟩) 1 1) [x] := Pl.Sl.ofCb (s := 2) h (by omega)
theorem Ge.nilCb {w : World} {N base : Nat} (h : Pl.Cb w N 24 []) (hb : base ≤ N) : Ge w base (.slice (some ⟨N, 0, none⟩) 0 0) [] := Pl.Gr.ofCb h hb rfl (by unfold maxLen; omega) (fun _ _ => trivial)
theorem Ge.es {w : World} {base : Nat} {v : Value} {l : List T.Ent} (h : Ge w base v l) (hm : l.length ≤ 1000000000) : Es w base v l := Pl.Gr.sl h (by omega)
theorem same_eq (w : World) {v u : Value} {lo lo2 : Nat} {a b : List T.Ent} (ha : Es w lo v a) (hb : Es w lo2 u b) (h : a = b) : Calls Tryd.prog 16 #[v, u] w fun e w' => e = .returned (.bool true) ∧ Pl.Ex w w' := by
  have := same_calls w ha hb
  rw [decide_eq_true h] at this; exact this
end Go.Proofs.YtmioaeaobefphaaDoor
