/- A function without loops, walked with its frame as a list of what is known. -/
import Derived.Test.YtbdmncpibnligaaGreatDoorBaa
import Derived.Laws.AppendOwn
import Derived.Below

namespace Go.Proofs.YtbdmncpibnligaaGreatDoor.Pl
open Go
set_option linter.unusedVariables false

/-! A function without loops, walked with its frame as a list of what is known. -/
def Ks (P : Program) (Q : Exit → Act → World → Prop) : List Code → Exit → Act → World → Prop
  | [] => Q
  | c :: cs => Exit.then (c.wp P (Ks P Q cs)) (Ks P Q cs)
/-- What is still to be done, with this much known of the frame. -/
def V (P : Program) (Q : Exit → Act → World → Prop) (n : Nat) (ds : List Deferred) (cs : List Code) (l : List (Nat × Value)) (w : World) : Prop :=
  ∀ a, Ag n ds a l → Ks P Q cs .normal a w
section
variable {P : Program} {Q : Exit → Act → World → Prop} {n : Nat} {ds : List Deferred} {cs : List Code} {l : List (Nat × Value)} {w : World} {x y : Code}
theorem Ks_ret : ∀ {cs : List Code} {a : Act} {w : World}, Q .ret a w → Ks P Q cs .ret a w
  | [], _, _, h => h
  | _ :: cs, _, _, h => Ks_ret (cs := cs) h
theorem Ks_panic : ∀ {cs : List Code} {c : _} {a : Act} {w : World}, Ks P Q cs (.panic c) a w ↔ Q (.panic c) a w
  | [], _, _, _ => Iff.rfl
  | _ :: cs, _, _, _ => Ks_panic (cs := cs)
theorem V_seq (h : V P Q n ds (x :: y :: cs) l w) : V P Q n ds (.seq x y :: cs) l w := fun a ha => wp_seq (h a ha)
theorem V_skip (h : V P Q n ds cs l w) : V P Q n ds (.skip :: cs) l w := fun a ha => wp_skip (h a ha)
theorem V_true {c : Operand} (hc : opv l c = some (.bool true)) (h : V P Q n ds (x :: cs) l w) : V P Q n ds (.cond c x y :: cs) l w := fun a ha => wp_cond_true (ha.cons.opv hc) (h a ha)
theorem V_false {c : Operand} (hc : opv l c = some (.bool false)) (h : V P Q n ds (y :: cs) l w) : V P Q n ds (.cond c x y :: cs) l w := fun a ha => wp_cond_false (ha.cons.opv hc) (h a ha)
theorem V_ret (h : ∀ a, Ag n ds a l → Q .ret a w) : V P Q n ds (.ret :: cs) l w := fun a ha => wp_ret (Ks_ret (h a ha))
/-- Less is known as well. -/
theorem V_less {l' : List (Nat × Value)} (hl : ∀ t v, look l' t = some v → look l t = some v) (h : V P Q n ds cs l' w) : V P Q n ds cs l w := fun a ha => h a (ha.less hl)
/-- Of these slots alone. -/
def subl (l : List (Nat × Value)) : List (Nat × Value) → Prop
  | [] => True
  | (d, v) :: l' => look l d = some v ∧ subl l l'
theorem subl_look {l : List (Nat × Value)} : ∀ {l' : List (Nat × Value)}, subl l l' → ∀ t v, look l' t = some v → look l t = some v
  | [], _, t, v, h => by cases h
  | (d, u) :: l', hs, t, v, h => by
    unfold look at h
    cases hb : Nat.beq d t with
    | true =>
      rw [hb] at h
      obtain rfl : d = t := Nat.eq_of_beq_eq_true hb
      cases h
      exact hs.1
    | false =>
      rw [hb] at h
      exact subl_look hs.2 t v h
theorem V_sub (l' : List (Nat × Value)) (hl : subl l l') (h : V P Q n ds cs l' w) : V P Q n ds cs l w := V_less (subl_look hl) h

theorem subl_nil : subl l [] := trivial
theorem subl_cons {d : Nat} {v : Value} {l' : List (Nat × Value)} (h : look l d = some v) (hs : subl l l') : subl l ((d, v) :: l') := ⟨h, hs⟩
theorem AllG_nil {L : List Oper} {S : World → Prop} {f M : Nat} : AllG P L S Q n ds f M l w [] := trivial
theorem AllG_cons {L : List Oper} {S : World → Prop} {f M i : Nat} {rs : List Nat} (h : wpA P L S (G P L S Q n ds f (Nat.lor M (Nat.shiftLeft 1 i))) ((false, i, M) :: []) l w) (hs : AllG P L S Q n ds f M l w rs) : AllG P L S Q n ds f M l w (i :: rs) := ⟨h, hs⟩
theorem wpA_mono {L : List Oper} {S : World → Prop} {K K' : List (Nat × Value) → World → Prop} (hK : ∀ l w, K l w → K' l w) :
    ∀ (r : List (Bool × Nat × Nat)) (l : List (Nat × Value)) (w : World), wpA P L S K r l w → wpA P L S K' r l w
  | [], l, w, h => hK l w h
  | (k, i, m) :: r, l, w, h => by
    obtain ⟨o, ho, h⟩ := h
    refine ⟨o, ho, ?_⟩
    rcases h with ⟨d, v, h1, hdd, hg, hy, h⟩ | ⟨d, hdd, hg, h⟩ | ⟨d, f, vs, h1, hdd, hg, hx, h⟩ | ⟨d, v, w', h1, hdd, hg, hx, hS, h⟩ | ⟨w', h1, hdd, hg, hx, hS, h⟩
    · exact .inl ⟨d, v, h1, hdd, hg, hy, wpA_mono hK r _ w h⟩
    · exact .inr (.inl ⟨d, hdd, hg, wpA_mono hK r _ w h⟩)
    · exact .inr (.inr (.inl ⟨d, f, vs, h1, hdd, hg, hx, Calls.mono h fun e w' ⟨v, he, hS, hh⟩ => ⟨v, he, hS, wpA_mono hK r _ w' hh⟩⟩))
    · exact .inr (.inr (.inr (.inl ⟨d, v, w', h1, hdd, hg, hx, hS, wpA_mono hK r _ w' h⟩)))
    · exact .inr (.inr (.inr (.inr ⟨w', h1, hdd, hg, hx, hS, wpA_mono hK r _ w' h⟩)))

/-- What is known at the end of a drawn region, all have come up. -/
theorem G_V {L : List Oper} {S : World → Prop} {f M : Nat} (hM : Nat.beq M (Nat.sub (2 ^ L.toArray.size) 1) = true) (h : V P Q n ds cs l w) : G P L S (Ks P Q cs) n ds f M l w := G_end hM fun _ => h
theorem V_drawG {id : Nat} {L : List Oper} {S : World → Prop} (hm : P.follows .mixedOrders = true) (hS : S w.drew) (h : S w.drew → G P L S (Ks P Q cs) n ds L.toArray.size 0 l w.drew) : V P Q n ds (.region id L.toArray true :: cs) l w :=
  fun a ha => wp_region_held hm (h hS a _ ha (Lst.new _) hS)
/-- A drawn region's checks, all in one. -/
def drawOk (n : Nat) (L : List Oper) (r : List (Bool × Nat × Nat)) : Bool :=
  Region.noSelect L.toArray && (planOk (tabs L.toArray) (Nat.sub (2 ^ L.toArray.size) 1) r 0 && (Nat.beq r.length L.toArray.size && dstOk n L))
theorem V_draw {id : Nat} {L : List Oper} {S : World → Prop} (r : List (Bool × Nat × Nat)) (hm : P.follows .mixedOrders = true)
    (hQ : ∀ c (d : Option Tmp) v a w, Q (.panic c) (a.put d v) w → Q (.panic c) a w) (hk : drawOk n L r = true) (hS : S w.drew)
    (h : S w.drew → wpA P L S (V P Q n ds cs) r l w.drew) : V P Q n ds (.region id L.toArray true :: cs) l w := by
  rw [drawOk, Bool.and_eq_true, Bool.and_eq_true, Bool.and_eq_true] at hk
  refine V_drawG hm hS fun hS => ?_
  have := wpA_G (f := 0) hk.1 (fun c d v a w hq => Ks_panic.2 (hQ c d v a w (Ks_panic.1 hq))) (dstOk_spec hk.2.2.2) r 0 l w.drew hk.2.1 (wpA_mono (fun l w hx => G_V (P := P) (Q := Q) (cs := cs) (by rw [beq_iff]) hx) r l w.drew (h hS))
  rw [Nat.add_zero, (beq_iff _ _).1 hk.2.2.1] at this
  exact this
theorem V_region {id : Nat} {L : List Oper} (hk : dstOk n L = true)
    (h : wpA P L (fun _ => True) (V P Q n ds cs) (idp 0 L) l w) : V P Q n ds (.region id L.toArray false :: cs) l w := fun a ha =>
  wp_region_list (wpList_sound (S := fun _ => True) (Q := Ks P Q cs) (dstOk_spec hk) L [] l w a rfl ha trivial h)
/-- A drawn region's checks, where it branches. -/
def mixOk (n : Nat) (L : List Oper) : Bool := Region.noSelect L.toArray && dstOk n L
theorem G_plan {L : List Oper} {S : World → Prop} {M : Nat} (r : List (Bool × Nat × Nat)) (e f : Nat) {g : Nat} (hQ : ∀ c (d : Option Tmp) v a w, Q (.panic c) (a.put d v) w → Q (.panic c) a w) (hk : mixOk n L = true) (hg : Nat.beq (Nat.add r.length f) g = true)
    (hp : planOk (tabs L.toArray) e r M = true) (h : wpA P L S (G P L S (Ks P Q cs) n ds f e) r l w) : G P L S (Ks P Q cs) n ds g M l w := by
  rw [mixOk, Bool.and_eq_true] at hk
  have := wpA_G (f := f) hk.1 (fun c d v a w hq => Ks_panic.2 (hQ c d v a w (Ks_panic.1 hq))) (dstOk_spec hk.2) r M l w hp h
  rwa [show r.length + f = g from (beq_iff _ _).1 hg] at this
theorem G_any {L : List Oper} {S : World → Prop} {M : Nat} (rs : List Nat) (f : Nat) {g : Nat} (hk : mixOk n L = true) (hg : Nat.beq (Nat.succ f) g = true) (hr : rdyOk (tabs L.toArray) M rs = true) (h : AllG P L S (Ks P Q cs) n ds f M l w rs) : G P L S (Ks P Q cs) n ds g M l w := by
  rw [mixOk, Bool.and_eq_true] at hk
  have := G_all (dstOk_spec hk.2) rs hr h
  rwa [show f + 1 = g from (beq_iff _ _).1 hg] at this

theorem V_block {id : Nat} {b : Code} (h : V P (Exit.inBlock id (Ks P Q cs)) n ds [b] l w) : V P Q n ds (.block id b :: cs) l w := fun a ha => wp_block (h a ha)
theorem V_endblock {id : Nat} (h : V P Q n ds cs l w) : V P (Exit.inBlock id (Ks P Q cs)) n ds [] l w := fun a ha => h a ha
theorem V_exit {id : Nat} {cs' : List Code} {N : Act → World → Prop} (h : V P Q n ds cs l w) : V P (Exit.then N (Ks P (Exit.inBlock id (Ks P Q cs)) [])) n ds (.exit id :: cs') l w := fun a ha => wp_exit (by
  have e : ∀ (Q' : Exit → Act → World → Prop) (cs' : List Code), Q' (.exit id) a w → Ks P Q' cs' (.exit id) a w := fun Q' cs' => by
    induction cs' with
    | nil => exact fun h => h
    | cons c cs' ih => exact fun h => ih h
  refine e _ _ ?_
  show (if id = id then Ks P Q cs .normal a w else _)
  rw [if_pos rfl]
  exact h a ha)
theorem least {p : Nat → Prop} (h : ∃ k, p k) : ∃ k, p k ∧ ∀ j, p j → k ≤ j := by
  obtain ⟨k, hk⟩ := h
  induction k using Nat.strongRecOn with
  | _ k ih =>
    by_cases hj : ∃ j, j < k ∧ p j
    · obtain ⟨j, h1, h2⟩ := hj; exact ih j h1 h2
    · exact ⟨k, hk, fun j hj' => Nat.le_of_not_lt fun hlt => hj ⟨j, hlt, hj'⟩⟩
open Classical in
/-- A loop: k rounds at most are left. -/
theorem V_loop {c : Code} (I : Nat → List (Nat × Value) → World → Prop) (k : Nat) (h0 : I k l w)
    (hs : ∀ k l w, I k l w → V P (Exit.then (fun a' w' => ∃ k' l', k' < k ∧ Ag n ds a' l' ∧ I k' l' w') (Ks P Q cs)) n ds [c] l w) : V P Q n ds (.loop c :: cs) l w := fun a ha => by
  have key : ∀ (a : Act) (w : World), (∃ k, ∃ l, Ag n ds a l ∧ I k l w) → ∃ k, (∃ l, Ag n ds a l ∧ I k l w) ∧ ∀ j, (∃ l, Ag n ds a l ∧ I j l w) → k ≤ j := fun a w h => least h
  refine wp_loop (fun a w => ∃ k, ∃ l, Ag n ds a l ∧ I k l w) (fun a w => if h : ∃ k, ∃ l, Ag n ds a l ∧ I k l w then (key a w h).choose else 0) ⟨k, l, ha, h0⟩ fun a w h => ?_
  obtain ⟨⟨l, ha, hI⟩, hmin⟩ := (key a w h).choose_spec
  refine Code.wp_mono ?_ (hs _ l w hI a ha)
  intro e a' w' hq
  cases e with
  | normal =>
    obtain ⟨k', l', hlt, ha', hI'⟩ := hq
    have h' : ∃ k, ∃ l, Ag n ds a' l ∧ I k l w' := ⟨k', l', ha', hI'⟩
    refine ⟨h', ?_⟩
    show (if h : ∃ k, ∃ l, Ag n ds a' l ∧ I k l w' then (key a' w' h).choose else 0) < (if h : ∃ k, ∃ l, Ag n ds a l ∧ I k l w then (key a w h).choose else 0)
    rw [dif_pos h', dif_pos h]
    exact Nat.lt_of_le_of_lt ((key a' w' h').choose_spec.2 k' ⟨l', ha', hI'⟩) hlt
  | _ => exact hq
theorem V_again {I : Nat → List (Nat × Value) → World → Prop} {Q' : Exit → Act → World → Prop} {k k' : Nat} (l' : List (Nat × Value)) (hs : subl l l') (hk : k' < k) (hI : I k' l' w) :
    V P (Exit.then (fun a' w' => ∃ k' l', k' < k ∧ Ag n ds a' l' ∧ I k' l' w') Q') n ds [] l w := fun a ha => ⟨k', l', hk, ha.less (subl_look hs), hI⟩
def argl : Nat → List Value → List (Nat × Value)
  | _, [] => []
  | i, v :: vs => (i, v) :: argl (i + 1) vs
theorem argl_look {t : Nat} {v : Value} : ∀ {vs : List Value} {i : Nat}, look (argl i vs) t = some v → i ≤ t ∧ vs[t - i]? = some v
  | [], i, h => by cases h
  | u :: vs, i, h => by
    unfold argl look at h
    cases hb : Nat.beq i t with
    | true =>
      rw [hb] at h
      obtain rfl : i = t := Nat.eq_of_beq_eq_true hb
      rw [Nat.sub_self]
      exact ⟨Nat.le_refl _, h⟩
    | false =>
      rw [hb] at h
      obtain ⟨h1, h2⟩ := argl_look h
      refine ⟨by omega, ?_⟩
      rw [show t - i = (t - (i + 1)) + 1 from by omega]
      exact h2
/-- A call of a function of the program. -/
theorem calls_by {f : FuncId} {fn : Func} {c : Code} {vs : List Value} {R : Ending → World → Prop} (hf : P.funcs[f]? = some fn) (hb : fn.body = some c) (hn : Nat.beq fn.ntmps n = true) (hle : Nat.ble vs.length n = true)
    (h : V P (bodyPost P fn R) n [] [c] (argl 0 vs) w) : Calls P f vs.toArray w R := by
  have hn' : vs.length ≤ n := Nat.le_of_ble_eq_true hle
  have hn2 : fn.ntmps = n := (beq_iff _ _).1 hn
  refine calls_of_wp hf hb (h _ ⟨?_, rfl, fun t v ht => ?_⟩)
  · rw [hn2]; simp; omega
  · obtain ⟨_, hj⟩ := argl_look ht
    rw [Nat.sub_zero] at hj
    have hlt : t < vs.length := (List.getElem?_eq_some_iff.1 hj).1
    show (vs.toArray ++ Array.replicate (fn.ntmps - vs.toArray.size) undef)[t]? = some v
    rw [Array.getElem?_append_left (by simpa using hlt)]
    simpa using hj
/-- The end: one result. -/
theorem post_ret {fn : Func} {R : Ending → World → Prop} {t : Tmp} {v : Value} (hr : fn.results = #[.tmp t]) (hv : look l t = some v) (h : R (.returned v) w) :
    V P (bodyPost P fn R) n [] (.ret :: cs) l w := V_ret fun a ha => by
  refine ⟨ha.defers, v, ?_, h⟩
  unfold results
  rw [hr]
  have : a.tmps.getD t undef = v := by rw [Array.getD_eq_getD_getElem?, ha.look t v hv]; rfl
  simp only [List.mapM_toArray, List.mapM_cons, List.mapM_nil, this]
  rfl
/-- The end: two results, three. -/
theorem post_ret2 {fn : Func} {R : Ending → World → Prop} {t t2 : Tmp} {v v2 : Value} (hr : fn.results = #[.tmp t, .tmp t2]) (hv : look l t = some v) (hv2 : look l t2 = some v2) (h : R (.returned (.tuple #[v, v2])) w) :
    V P (bodyPost P fn R) n [] (.ret :: cs) l w := V_ret fun a ha => by
  refine ⟨ha.defers, .tuple #[v, v2], ?_, h⟩
  unfold results
  rw [hr]
  have e1 : a.tmps.getD t undef = v := by rw [Array.getD_eq_getD_getElem?, ha.look t v hv]; rfl
  have e2 : a.tmps.getD t2 undef = v2 := by rw [Array.getD_eq_getD_getElem?, ha.look t2 v2 hv2]; rfl
  simp only [List.mapM_toArray, List.mapM_cons, List.mapM_nil, e1, e2]
  rfl
theorem post_panic {fn : Func} {R : Ending → World → Prop} (c : _) (d : Option Tmp) (v : Value) (a : Act) (w : World) (h : bodyPost P fn R (.panic c) (a.put d v) w) : bodyPost P fn R (.panic c) a w := by
  cases d <;> exact h
end

section
variable {P : Program} {L : List Oper} {S : World → Prop} {K : List (Nat × Value) → World → Prop} {k : Bool} {i m d : Nat} {o : Oper} {r : List (Bool × Nat × Nat)} {l : List (Nat × Value)} {w w' : World} {v : Value}
/-- Passed over. -/
theorem pA_skip (ho : nth L i = some o) (hd : o.dst = some d) (hg : gd L l o.guard = some false) (h : wpA P L S K r ((d, undef) :: l) w) : wpA P L S K ((k, i, m) :: r) l w := ⟨o, ho, .inr (.inl ⟨d, hd, hg, h⟩)⟩
theorem run_val (s : Sem Value) (X : World) (h : s.run P X = .ok v X) : (do pure (Next.value (← s)) : Sem Next).run P X = .ok (.value v) X := by
  show (s >>= fun u => pure (Next.value u)).run P X = _
  rw [Sem.run_bind, h]; rfl
theorem run_valW (s : Sem Value) {X X' : World} (h : s.run P X = .ok v X') : (do pure (Next.value (← s)) : Sem Next).run P X = .ok (.value v) X' := by
  show (s >>= fun u => pure (Next.value u)).run P X = _
  rw [Sem.run_bind, h]; rfl
theorem pA_call {f : FuncId} {xs : List Operand} {ats : Array TypeId} {vs : List Value} (ho : nth L i = some o) (hop : o.op = .call { callee := .value (.func f), args := xs.toArray, argTypes := ats }) (hd : o.dst = some d)
    (hg : gd L l o.guard = some true) (hx : opvs l xs = some vs) (hf : ∀ (u : Array Value) X, (callFunc f u).run P X = .ok (.enter f u) X)
    (hc : Calls P f vs.toArray w (fun e w' => ∃ v, e = .returned v ∧ S w' ∧ wpA P L S K r ((d, v) :: l) w')) : wpA P L S K ((false, i, m) :: r) l w :=
  ⟨o, ho, .inr (.inr (.inl ⟨d, f, vs.toArray, rfl, hd, hg, fun ρ hρ => by
    unfold execOp
    rw [hop]
    show (resolve ρ _ _ >>= fun d => invoke d.target d.args).run P w = _
    unfold resolve
    show (Deferred.ofValue (ρ (.func f)) (xs.toArray.map ρ) >>= fun d => invoke d.target d.args).run P w = _
    rw [hρ.func]
    show (callFunc f ((#[] ++ xs.toArray.map ρ) ++ #[])).run P w = _
    have e : (#[] ++ xs.toArray.map ρ) ++ #[] = vs.toArray := by rw [← hρ.opvs hx]; simp
    rw [e]
    exact hf _ w, hc⟩))⟩
theorem enters {f : FuncId} {fn : Func} {c : Code} (hf : P.funcs[f]? = some fn) (hname : (fn.name == "runtime.NumGoroutine") = false) (hb : fn.body = some c) (u : Array Value) (X : World) : (callFunc f u).run P X = .ok (.enter f u) X := by
  simp [callFunc, go_sem, hf, show ¬ fn.name = "runtime.NumGoroutine" from by simpa using hname, hb]
/-- It changes the world and gives a value. -/
theorem pA_val (ho : nth L i = some o) (hd : o.dst = some d) (hg : gd L l o.guard = some true) (hx : ∀ ρ, Cons ρ l → (execOp ρ o).run P w = .ok (.value v) w') (hS : S w')
    (h : wpA P L S K r ((d, v) :: l) w') : wpA P L S K ((false, i, m) :: r) l w := ⟨o, ho, .inr (.inr (.inr (.inl ⟨d, v, w', rfl, hd, hg, hx, hS, h⟩)))⟩
theorem pA_do (ho : nth L i = some o) (hd : o.dst = none) (hg : gd L l o.guard = some true) (hx : ∀ ρ, Cons ρ l → (execOp ρ o).run P w = .ok .skip w') (hS : S w')
    (h : wpA P L S K r l w') : wpA P L S K ((false, i, m) :: r) l w := ⟨o, ho, .inr (.inr (.inr (.inr ⟨w', rfl, hd, hg, hx, hS, h⟩)))⟩
theorem pA_take (ho : nth L i = some o) (hd : o.dst = some d) (hg : gd L l o.guard = some true) (hy : ∀ ρ, Cons ρ l → ∀ X, S X → (execOp ρ o).run P X = .ok (.value v) X)
    (h : wpA P L S K r ((d, v) :: l) w) : wpA P L S K ((true, i, m) :: r) l w := ⟨o, ho, .inl ⟨d, v, rfl, hd, hg, hy, h⟩⟩
/-- It leaves the world as it is: taken first, or in its turn. -/
theorem pA_pure (hS : S w) (ho : nth L i = some o) (hd : o.dst = some d) (hg : gd L l o.guard = some true) (hy : ∀ ρ, Cons ρ l → ∀ X, S X → (execOp ρ o).run P X = .ok (.value v) X)
    (h : wpA P L S K r ((d, v) :: l) w) : wpA P L S K ((k, i, m) :: r) l w := by
  cases k with
  | true => exact pA_take ho hd hg hy h
  | false => exact pA_val ho hd hg (fun ρ hρ => hy ρ hρ w hS) hS h
theorem qA_load {x : Operand} {ty : TypeId} {p : Value} (hS : S w) (ho : nth L i = some o) (hop : o.op = .load ty x) (hd : o.dst = some d) (hg : gd L l o.guard = some true) (hx : opv l x = some p)
    (hr : ∀ X, S X → (Instr.loadAt ty p).run P X = .ok v X) (h : wpA P L S K r ((d, v) :: l) w) : wpA P L S K ((k, i, m) :: r) l w :=
  pA_pure hS ho hd hg (fun ρ hρ X hX => by unfold execOp; rw [hop]; exact run_val _ X (by rw [hρ.opv hx]; exact hr X hX)) h
theorem qA_loadw {x : Operand} {ty : TypeId} {p : Value} (hS : S w) (ho : nth L i = some o) (hop : o.op = .load ty x) (hd : o.dst = some d) (hg : gd L l o.guard = some true) (hx : opv l x = some p)
    (hr : (Instr.loadAt ty p).run P w = .ok v w) (h : wpA P L S K r ((d, v) :: l) w) : wpA P L S K ((false, i, m) :: r) l w :=
  pA_val ho hd hg (fun ρ hρ => by unfold execOp; rw [hop]; exact run_val _ w (by rw [hρ.opv hx]; exact hr)) hS h
theorem pA_end (h : K l w) : wpA P L S K [] l w := h
theorem qA_alloc {ty : TypeId} (ho : nth L i = some o) (hop : o.op = .alloc ty) (hd : o.dst = some d) (hg : gd L l o.guard = some true)
    (hr : (Instr.alloc ty true (.tuple #[])).run P w = .ok v w') (hS : S w') (h : wpA P L S K r ((d, v) :: l) w') : wpA P L S K ((false, i, m) :: r) l w :=
  pA_val ho hd hg (fun ρ hρ => by
    unfold execOp; rw [hop]
    show (Instr.alloc ty true (.tuple #[]) >>= fun u => pure (Next.value u)).run P w = _
    rw [Sem.run_bind, hr]; rfl) hS h
theorem qA_store {x y : Operand} {ty : TypeId} {p u : Value} (ho : nth L i = some o) (hop : o.op = .store ty x y) (hd : o.dst = none) (hg : gd L l o.guard = some true) (hx : opv l x = some p) (hy : opv l y = some u)
    (hr : (Instr.storeAt ty p u).run P w = .ok () w') (hS : S w') (h : wpA P L S K r l w') : wpA P L S K ((false, i, m) :: r) l w :=
  pA_do ho hd hg (fun ρ hρ => by
    unfold execOp; rw [hop]
    show (Instr.storeAt ty (ρ x) (ρ y) >>= fun _ => pure Next.skip).run P w = _
    rw [hρ.opv hx, hρ.opv hy, Sem.run_bind, hr]; rfl) hS h
theorem qA_un {x : Operand} {op : UnOp} {ty : TypeId} {u : Value} (hS : S w) (ho : nth L i = some o) (hop : o.op = .unOp op ty x) (hd : o.dst = some d) (hg : gd L l o.guard = some true) (hx : opv l x = some u)
    (hr : ∀ X, (Op.unary op u).run P X = .ok v X) (h : wpA P L S K r ((d, v) :: l) w) : wpA P L S K ((k, i, m) :: r) l w :=
  pA_pure hS ho hd hg (fun ρ hρ X _ => by unfold execOp; rw [hop]; exact run_val _ X (by rw [hρ.opv hx]; exact hr X)) h
theorem qA_bin {x y : Operand} {op : BinOp} {tx ty : TypeId} {u u' : Value} (hS : S w) (ho : nth L i = some o) (hop : o.op = .binOp op tx x y ty) (hd : o.dst = some d) (hg : gd L l o.guard = some true) (hx : opv l x = some u) (hy : opv l y = some u')
    (hr : ∀ X, (do eqGuard op tx x y u u'; binOp op tx u u' : Sem Value).run P X = .ok v X) (h : wpA P L S K r ((d, v) :: l) w) : wpA P L S K ((k, i, m) :: r) l w :=
  pA_pure hS ho hd hg (fun ρ hρ X _ => by unfold execOp; rw [hop]; exact run_val _ X (by rw [hρ.opv hx, hρ.opv hy]; exact hr X)) h
end
end Go.Proofs.YtbdmncpibnligaaGreatDoor.Pl
/- A row of structs that grows. -/
namespace Go.Proofs.YtbdmncpibnligaaGreatDoor.Pl
open Go
set_option linter.unusedVariables false

/-! A drawn region inside a loop: how a panic goes through. -/
section
variable {P : Program} {Q : Exit → Act → World → Prop}
theorem pn_block {id : Nat} (hQ : ∀ c (d : Option Tmp) v a w, Q (.panic c) (a.put d v) w → Q (.panic c) a w) : ∀ c (d : Option Tmp) v a w, Exit.inBlock id Q (.panic c) (a.put d v) w → Exit.inBlock id Q (.panic c) a w := fun c d v a w h => hQ c d v a w h
theorem pn_then {R : Act → World → Prop} (hQ : ∀ c (d : Option Tmp) v a w, Q (.panic c) (a.put d v) w → Q (.panic c) a w) : ∀ c (d : Option Tmp) v a w, Exit.then R Q (.panic c) (a.put d v) w → Exit.then R Q (.panic c) a w := fun c d v a w h => hQ c d v a w h
theorem pn_ks {cs : List Code} (hQ : ∀ c (d : Option Tmp) v a w, Q (.panic c) (a.put d v) w → Q (.panic c) a w) : ∀ c (d : Option Tmp) v a w, Ks P Q cs (.panic c) (a.put d v) w → Ks P Q cs (.panic c) a w := fun c d v a w h => Ks_panic.2 (hQ c d v a w (Ks_panic.1 h))
end
/-! Functions as values. -/
section
variable {P : Program} {L : List Oper} {S : World → Prop} {K : List (Nat × Value) → World → Prop} {k : Bool} {i m d : Nat} {o : Oper} {r : List (Bool × Nat × Nat)} {l : List (Nat × Value)} {w w' : World} {v : Value}
/-- A function value is made. -/
theorem qA_func {f : FuncId} {fst cap : List Operand} {fs vs : List Value} (hS : S w) (ho : nth L i = some o) (hop : o.op = .makeFunc (.func f) fst.toArray cap.toArray) (hd : o.dst = some d) (hg : gd L l o.guard = some true) (hf : opvs l fst = some fs) (hx : opvs l cap = some vs)
    (h : wpA P L S K r ((d, .func (.func f) fs.toArray vs.toArray) :: l) w) : wpA P L S K ((k, i, m) :: r) l w :=
  pA_pure hS ho hd hg (fun ρ hρ X _ => by
    unfold execOp; rw [hop]
    refine run_val _ X ?_
    have e : cap.toArray.map ρ = vs.toArray := by rw [← hρ.opvs hx]; simp
    have e1 : fst.toArray.map ρ = fs.toArray := by rw [← hρ.opvs hf]; simp
    show (Instr.makeFunc (.func f) (fst.toArray.map ρ) (cap.toArray.map ρ)).run P X = _
    rw [e, e1]
    simp [Instr.makeFunc]) h
end
/-- The end of a function without results. -/
theorem post_none {P : Program} {n : Nat} {l : List (Nat × Value)} {w : World} {fn : Func} {R : Ending → World → Prop} (hr : fn.results = #[]) (h : R (.returned (.tuple #[])) w) : V P (bodyPost P fn R) n [] [] l w := fun a ha => by
  refine ⟨ha.defers, .tuple #[], ?_, h⟩
  unfold results
  rw [hr]
  simp
/-! A row of structs that grows, of which is known what its spare places may hold. -/
/-- A row of the call's own: its block's cells, each of a kind that 'ok' allows. -/
def Gr (ok : Value → Prop) (w : World) (base : Nat) (e : TypeId) (size : Nat) (v : Value) (n : Nat) (xs : List Value) : Prop :=
  xs.length = n * size ∧ ((v = .slice none 0 0 ∧ n = 0) ∨
    ∃ g cap cur, v = .slice (some ⟨g, 0, none⟩) n cap ∧ base ≤ g ∧ w.heap[g]? = some (.cells cur e (0, 0)) ∧ n ≤ cap ∧ cap ≤ maxLen ∧ cur.size = cap * size ∧ cur.toList.take (n * size) = xs ∧ ∀ c ∈ cur.toList, ok c)
section
variable {P : Program} {ok : Value → Prop} {w w' : World} {base : Nat} {e : TypeId} {size : Nat} {v : Value} {n : Nat} {xs : List Value}
theorem Gr.nil : Gr ok w base e size (.slice none 0 0) 0 [] := ⟨by simp, .inl ⟨rfl, rfl⟩⟩
theorem Gr.own (h : Gr ok w base e size v n xs) : w.ownsRow base e size v n xs := ⟨h.1, h.2.imp id fun ⟨g, cap, cur, h1, h2, h3, h4, h5, h6, h7, _⟩ => ⟨g, cap, cur, h1, h2, h3, h4, h5, h6, h7⟩⟩
theorem Gr.kept {row : Option Nat} (h : Gr ok w base e size v n xs) (hg : w.grownBy w' row) (hne : v.ownBlock = none ∨ v.ownBlock ≠ row) : Gr ok w' base e size v n xs := by
  refine ⟨h.1, ?_⟩
  rcases h.2 with hn | ⟨g, cap, cur, rfl, hb, hgg, rest⟩
  · exact .inl hn
  · refine .inr ⟨g, cap, cur, rfl, hb, ?_, rest⟩
    rw [hg.block g (Array.getElem?_eq_some_iff.1 hgg).1 (by simpa [Value.ownBlock] using hne)]
    exact hgg
/-- A row that is made of some cells at once. -/
theorem Gr.made (w : World) (base : Nat) (e : TypeId) (size n : Nat) (cur : List Value) (hb : base ≤ w.heap.size) (hs : cur.length = n * size) (hm : n ≤ maxLen) (hok : ∀ c ∈ cur, ok c) : Gr ok (w.alloc (.cells cur.toArray e)) base e size (.slice (some ⟨w.heap.size, 0, none⟩) n n) n cur :=
  ⟨hs, .inr ⟨w.heap.size, n, cur.toArray, rfl, hb, _root_.Go.heap_alloc_new w _, Nat.le_refl _, hm, by simpa using hs, by rw [← hs]; simp, by simpa using hok⟩⟩
end
end Go.Proofs.YtbdmncpibnligaaGreatDoor.Pl
/- Plain steps, as many as follow one another. -/
namespace Go.Proofs.YtbdmncpibnligaaGreatDoor.Pl
open Go
set_option linter.unusedVariables false

/-! Plain operations, as many as follow one another, by looking alone. -/
def plainV (l : List (Nat × Value)) : Op → Option Value
  | .move x => opv l x
  | .assign x => opv l x
  | .pick c x y => match opv l c with
    | some (.bool true) => opv l x
    | some (.bool false) => opv l y
    | _ => none
  | .extract x ix => match opv l x with
    | some (.tuple t) => t[ix]?
    | _ => none
  | _ => none
def plain (L : List Oper) (l : List (Nat × Value)) (o : Oper) : Option Value := match gd L l o.guard with
  | some true => plainV l o.op
  | some false => some undef
  | none => none
def adv (L : List Oper) : List (Bool × Nat × Nat) → List (Nat × Value) → List (Bool × Nat × Nat) × List (Nat × Value)
  | [], l => ([], l)
  | (k, i, m) :: r, l => match nth L i with
    | none => ((k, i, m) :: r, l)
    | some o => match o.dst with
      | none => ((k, i, m) :: r, l)
      | some d => match plain L l o with
        | none => ((k, i, m) :: r, l)
        | some v => adv L r ((d, v) :: l)
section
variable {P : Program} {L : List Oper} {S : World → Prop} {K : List (Nat × Value) → World → Prop}
theorem plainV_run {l : List (Nat × Value)} {o : Oper} {v : Value} (h : plainV l o.op = some v) (ρ : Operand → Value) (hρ : Cons ρ l) (X : World) : (execOp ρ o).run P X = .ok (.value v) X := by
  unfold execOp
  cases ho : o.op <;> rw [ho] at h <;> simp only [plainV] at h <;> try (cases h; done)
  case move x => show Result.ok (Next.value (ρ x)) X = _; rw [hρ.opv h]
  case assign x => show Result.ok (Next.value (ρ x)) X = _; rw [hρ.opv h]
  case pick c x y =>
    split at h
    · next hc =>
      show (asBool (ρ c) >>= fun t => pure (Next.value (if t then ρ x else ρ y))).run P X = _
      rw [hρ.opv hc, hρ.opv h |>.symm]; rfl
    · next hc =>
      show (asBool (ρ c) >>= fun t => pure (Next.value (if t then ρ x else ρ y))).run P X = _
      rw [hρ.opv hc, hρ.opv h |>.symm]; rfl
    · cases h
  case extract x ix =>
    split at h
    · next hx => exact run_val _ X (by rw [hρ.opv hx]; simp [Instr.extract, h])
    · cases h
theorem wpA_adv : ∀ (r : List (Bool × Nat × Nat)) (l : List (Nat × Value)) {w : World}, S w → wpA P L S K (adv L r l).1 (adv L r l).2 w → wpA P L S K r l w
  | [], l, w, _, h => h
  | (k, i, m) :: r, l, w, hS, h => by
    unfold adv at h
    split at h
    · exact h
    · next o ho =>
      split at h
      · exact h
      · next d hd =>
        split at h
        · exact h
        · next v hv =>
          have ih := wpA_adv r _ hS h
          unfold plain at hv
          split at hv
          · next hg => exact pA_pure hS ho hd hg (fun ρ hρ X _ => plainV_run hv ρ hρ X) ih
          · next hg => cases hv; exact pA_skip ho hd hg ih
          · cases hv
/-- All plain operations that come first. -/
theorem qA_go {r r' : List (Bool × Nat × Nat)} {l l' : List (Nat × Value)} {w : World} (hS : S w) (e : adv L r l = (r', l')) (h : wpA P L S K r' l' w) : wpA P L S K r l w := wpA_adv r l hS (by rw [e]; exact h)
end
end Go.Proofs.YtbdmncpibnligaaGreatDoor.Pl
