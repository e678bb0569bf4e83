/- Ranges over functions, walked with the frame as a list of what is known. -/
import Derived.Test.YtbdmncpibnligaaGreatDoorBab
import Derived.Test.YtbdmncpibnligaaGreatDoorBac
import Derived.RangeFuncSeq
import Derived.RangeFuncLeaves
import Derived.OrdersIn
import Derived.TacticsIn

namespace Go.Proofs.YtbdmncpibnligaaGreatDoor.Pl
open Go
set_option linter.unusedVariables false

/-! Ranges over functions: code inside a round, calls of yield, the statement itself. -/
/-- All functions, any depth; in a round, or in none. -/
abbrev WF (ro : Option Nat) : Fence := { Fence.wide with round := ro }
theorem calls_wf {ro : Option Nat} {n : Nat} {P : Program} {f : FuncId} {args : Array Value} {w : World} {R : Ending → World → Prop} : CallsIn (WF ro) n P f args w R ↔ Calls P f args w R := callsIn_wide (n := n)
def KsI (P : Program) (ro : Option Nat) (Q : Exit → Act → World → Prop) : List Code → Exit → Act → World → Prop
  | [] => Q
  | c :: cs => Exit.then (c.wpIn (WF ro) 0 P (KsI P ro Q cs)) (KsI P ro Q cs)
def VI (P : Program) (Q : Exit → Act → World → Prop) (ro : Option Nat) (n : Nat) (ds : List Deferred) (cs : List Code) (l : List (Nat × Value)) (w : World) : Prop :=
  ∀ a, Ag n ds a l → KsI P ro Q cs .normal a w
theorem KsI_none {P : Program} {Q : Exit → Act → World → Prop} : ∀ (cs : List Code) (e : Exit) (a : Act) (w : World), KsI P none Q cs e a w ↔ Ks P Q cs e a w
  | [], e, a, w => Iff.rfl
  | c :: cs, e, a, w => by
    have ih := KsI_none (P := P) (Q := Q) cs
    cases e with
    | normal =>
      show c.wpIn Fence.wide 0 P (KsI P none Q cs) a w ↔ c.wp P (Ks P Q cs) a w
      rw [wpIn_wide]
      exact ⟨fun h => wp_mono h fun e a w h => (ih e a w).1 h, fun h => wp_mono h fun e a w h => (ih e a w).2 h⟩
    | _ => exact ih _ a w
section
variable {P : Program} {Q : Exit → Act → World → Prop} {ro : Option Nat} {n : Nat} {ds : List Deferred} {cs : List Code} {l : List (Nat × Value)} {w : World} {x y : Code}
theorem VI_of_V (h : V P Q n ds cs l w) : VI P Q none n ds cs l w := fun a ha => (KsI_none _ _ _ _).2 (h a ha)
theorem V_of_VI (h : VI P Q none n ds cs l w) : V P Q n ds cs l w := fun a ha => (KsI_none _ _ _ _).1 (h a ha)
theorem KsI_exit {id : Nat} : ∀ {cs : List Code} {a : Act} {w : World}, Q (.exit id) a w → KsI P ro Q cs (.exit id) a w
  | [], _, _, h => h
  | _ :: cs, _, _, h => KsI_exit (cs := cs) h
theorem VI_seq (h : VI P Q ro n ds (x :: y :: cs) l w) : VI P Q ro n ds (.seq x y :: cs) l w := fun a ha => wpIn_seq (h a ha)
theorem VI_skip (h : VI P Q ro n ds cs l w) : VI P Q ro n ds (.skip :: cs) l w := fun a ha => wpIn_skip (h a ha)
theorem VI_true {c : Operand} (hc : opv l c = some (.bool true)) (h : VI P Q ro n ds (x :: cs) l w) : VI P Q ro n ds (.cond c x y :: cs) l w := fun a ha => wpIn_cond_true (ha.cons.opv hc) (h a ha)
theorem VI_false {c : Operand} (hc : opv l c = some (.bool false)) (h : VI P Q ro n ds (y :: cs) l w) : VI P Q ro n ds (.cond c x y :: cs) l w := fun a ha => wpIn_cond_false (ha.cons.opv hc) (h a ha)
theorem VI_end (h : ∀ a, Ag n ds a l → Q .normal a w) : VI P Q ro n ds [] l w := h
theorem VI_less {l' : List (Nat × Value)} (hl : ∀ t v, look l' t = some v → look l t = some v) (h : VI P Q ro n ds cs l' w) : VI P Q ro n ds cs l w := fun a ha => h a (ha.less hl)
theorem VI_sub (l' : List (Nat × Value)) (hl : subl l l') (h : VI P Q ro n ds cs l' w) : VI P Q ro n ds cs l w := VI_less (subl_look hl) h
theorem VI_block {id : Nat} {b : Code} (h : VI P (Exit.inBlock id (KsI P ro Q cs)) ro n ds [b] l w) : VI P Q ro n ds (.block id b :: cs) l w := fun a ha => wpIn_block (h a ha)
theorem VI_endblock {id : Nat} (h : VI P Q ro n ds cs l w) : VI P (Exit.inBlock id (KsI P ro Q cs)) ro n ds [] l w := fun a ha => h a ha
theorem Ks_exit {id : Nat} : ∀ {cs : List Code} {a : Act} {w : World}, Q (.exit id) a w → Ks P Q cs (.exit id) a w
  | [], _, _, h => h
  | _ :: cs, _, _, h => Ks_exit (cs := cs) h
theorem V_exitHere {id : Nat} {cs' : List Code} (h : V P Q n ds cs l w) : V P (Exit.inBlock id (Ks P Q cs)) n ds (.exit id :: cs') l w := fun a ha => wp_exit (by
  refine Ks_exit ?_
  show (if id = id then Ks P Q cs .normal a w else _)
  rw [if_pos rfl]
  exact h a ha)
/-! A loop of few rounds, one round after another. -/
/-! A return from inside of loops and blocks. -/
theorem ret_block {id : Nat} {a : Act} (h : Q .ret a w) : Exit.inBlock id Q .ret a w := h
theorem ret_then {N : Act → World → Prop} {a : Act} (h : Q .ret a w) : Exit.then N Q .ret a w := h
theorem at_ret1 {fn : Func} {R : Ending → World → Prop} {t : Tmp} {v : Value} {a : Act} (ha : Ag n [] a l) (hr : fn.results = #[.tmp t]) (hv : look l t = some v) (h : R (.returned v) w) : bodyPost P fn R .ret a w := by
  refine ⟨ha.defers, v, ?_, h⟩
  unfold results
  rw [hr]
  have : a.tmps.getD t undef = v := by rw [Array.getD_eq_getD_getElem?, ha.look t v hv]; rfl
  simp only [List.mapM_toArray, List.mapM_cons, List.mapM_nil, this]
  rfl

/-! Operations. -/
theorem semAt_of {ρ : Operand → Value} {o : Oper} {w w' : World} {x : Next} (h : (execOp ρ o).run P w = .ok x w') (hx : ∀ d, x ≠ .defer d) : (o.semAt ro ρ).run P w = .ok x w' := by
  by_cases hd : ∃ c, o.op = .defer c
  · obtain ⟨c, hc⟩ := hd
    exfalso
    unfold execOp at h
    rw [hc] at h
    simp only [Sem.run_bind] at h
    revert h
    generalize (resolve ρ _ _).run P w = r
    intro h
    cases r with
    | ok d w1 =>
      simp only [Result.andThen] at h
      revert h
      first
        | (intro h; simp only [Sem.run_pure, Result.ok.injEq] at h; exact hx _ h.1.symm)
        | skip
    | halt e w1 => simp [Result.andThen] at h
  · rw [Oper.semAt_eq _ _ _ (fun c hc => hd ⟨c, hc⟩)]; exact h
end
section
variable {P : Program} {L : List Oper} {S : World → Prop} {K : List (Nat × Value) → World → Prop} {Q : Exit → Act → World → Prop} {ro : Option Nat} {n f : Nat} {ds : List Deferred}
theorem about_wf {o : Oper} {w : World} {ρ : Operand → Value} : ∀ f, o.about P w ρ = some f → (WF ro).fn f := fun _ _ => trivial
theorem depth_wf {m : Nat} : (WF ro).depth.isSome = true → 1 ≤ m := fun h => by cases h
/-- One operation in its turn, in a round or in none. -/
theorem step_opI {k : Bool} {i m : Nat} {l : List (Nat × Value)} {w : World} {a : Act} {o : Oper} {R : Act → World → Prop} (hd : ∀ d, o.dst = some d → d < n) (ho : nth L i = some o) (ha : Ag n ds a l) (hS : S w)
    (h : wpA P L S K ((false, i, m) :: []) l w) (hR : ∀ a l w, Ag n ds a l → S w → K l w → R a w) : wpOpIn (WF ro) 0 P L.toArray Q i (fun a' w' => S w' ∧ R a' w') a w := by
  obtain ⟨o', ho', h⟩ := h
  obtain rfl : o = o' := Option.some.inj (ho.symm.trans ho')
  have hoi : L.toArray[i]? = some o := by rw [List.getElem?_toArray, ← nth_eq]; exact ho
  unfold wpOpIn
  simp only [hoi]
  rcases h with ⟨d, v, h1, _⟩ | ⟨d, hdd, hg, h⟩ | ⟨d, f, vs, h1, hdd, hg, hx, h⟩ | ⟨d, v, w', h1, hdd, hg, hx, hS', h⟩ | ⟨w', h1, hdd, hg, hx, hS', h⟩
  · cases h1
  · rw [if_neg (by rw [gd_wanted ha hg]; exact Bool.false_ne_true), hdd]
    exact ⟨about_wf, hS, hR _ _ _ (ha.put (hd d hdd) _) hS h⟩
  · rw [if_pos (gd_wanted ha hg)]
    refine ⟨about_wf, ?_⟩
    rw [semAt_of (hx _ ha.cons) (fun d hd => by cases hd), Oper.uponIn_enter]
    refine ⟨depth_wf, calls_wf.2 (Calls.mono h fun e w' he => ?_)⟩
    obtain ⟨v, rfl, hS', h⟩ := he
    rw [hdd]
    exact ⟨hS', hR _ _ _ (ha.put (hd d hdd) _) hS' h⟩
  · rw [if_pos (gd_wanted ha hg)]
    refine ⟨about_wf, ?_⟩
    rw [semAt_of (hx _ ha.cons) (fun d hd => by cases hd), Oper.uponIn_value, hdd]
    exact ⟨hS', hR _ _ _ (ha.put (hd d hdd) _) hS' h⟩
  · rw [if_pos (gd_wanted ha hg)]
    refine ⟨about_wf, ?_⟩
    rw [semAt_of (hx _ ha.cons) (fun d hd => by cases hd), Oper.uponIn_skip, hdd]
    exact ⟨hS', hR _ _ _ ha hS' h⟩
/-- Operations one after another, some of them calls of yield. -/
def wpY (P : Program) (L : List Oper) (K : List (Nat × Value) → World → Prop) : List (Bool × Nat × Nat) → List (Nat × Value) → World → Prop
  | [], l, w => K l w
  | (k, i, m) :: r, l, w => wpA P L (fun _ => True) (wpY P L K r) ((k, i, m) :: []) l w ∨
    ∃ o d q fn tmps assign body, nth L i = some o ∧ o.dst = some d ∧ gd L l o.guard = some true ∧ (∀ ρ, Cons ρ l → (execOp ρ o).run P w = .ok (.round q fn tmps assign body) w) ∧
      RoundIn Fence.wide 0 P q fn tmps assign body w (fun e w' => ∃ v, e = .returned v ∧ wpY P L K r ((d, v) :: l) w')
theorem Y_op {i m : Nat} {r : List (Bool × Nat × Nat)} {l : List (Nat × Value)} {w : World} (h : wpA P L (fun _ => True) (wpY P L K r) ((false, i, m) :: []) l w) : wpY P L K ((false, i, m) :: r) l w := .inl h
theorem Y_end {l : List (Nat × Value)} {w : World} (h : K l w) : wpY P L K [] l w := h
theorem wpY_sound (hd : ∀ i o d, nth L i = some o → o.dst = some d → d < n) :
    ∀ (rest pre : List Oper) (l : List (Nat × Value)) (w : World) (a : Act), L = pre ++ rest → Ag n ds a l → wpY P L (fun l w => ∀ a, Ag n ds a l → Q .normal a w) (idp pre.length rest) l w → wpListIn (WF ro) 0 P L.toArray Q rest a w
  | [], pre, l, w, a, _, ha, h => h a ha
  | o :: rest, pre, l, w, a, hL, ha, h => by
    have hoi := nth_drop hL
    have hL' : L = (pre ++ [o]) ++ rest := by rw [hL]; simp
    have hlen : (pre ++ [o]).length = pre.length + 1 := by simp
    have hop : L.toArray[pre.length]? = some o := by rw [List.getElem?_toArray, ← nth_eq]; exact hoi
    rcases h with h | ⟨o', d, q, fn, tmps, assign, body, ho', hdd, hg, hx, h⟩
    · have h1 := step_opI (ro := ro) (k := false) (m := 0) (Q := Q) (S := fun _ => True) (R := fun a w => wpListIn (WF ro) 0 P L.toArray Q rest a w) (hd _ o · hoi) hoi ha trivial h
        (fun a l w ha hS h => wpY_sound hd rest (pre ++ [o]) l w a hL' ha (by rw [hlen]; exact h))
      unfold wpOpIn at h1
      rw [hop] at h1
      dsimp only at h1
      unfold wpListIn
      by_cases hw : Region.wanted o (yielded L.toArray a.tmps) = true
      · rw [if_pos hw] at h1 ⊢
        exact Oper.wpIn_mono (fun a w h => h.2) h1
      · rw [if_neg hw] at h1 ⊢
        exact ⟨h1.1, h1.2.2⟩
    · obtain rfl : o = o' := Option.some.inj (hoi.symm.trans ho')
      unfold wpListIn
      rw [if_pos (gd_wanted ha hg)]
      refine ⟨about_wf, ?_⟩
      rw [semAt_of (hx _ ha.cons) (fun d hd => by cases hd), Oper.uponIn_round]
      refine ⟨depth_wf, RoundIn.mono (show RoundIn (WF ro) 0 P q fn tmps assign body w _ from h) fun e w' he => ?_⟩
      obtain ⟨v, rfl, h⟩ := he
      rw [hdd]
      exact wpY_sound hd rest (pre ++ [o]) _ w' _ hL' (ha.put (hd _ _ _ hoi hdd) _) (by rw [hlen]; exact h)
theorem VI_regionY {cs : List Code} {id : Nat} {l : List (Nat × Value)} {w : World} (hk : dstOk n L = true)
    (h : wpY P L (VI P Q ro n ds cs) (idp 0 L) l w) : VI P Q ro n ds (.region id L.toArray false :: cs) l w := fun a ha =>
  wpIn_region_list (by simpa using wpY_sound (Q := KsI P ro Q cs) (dstOk_spec hk) L [] l w a rfl ha h)
theorem wpY_of_wpA : ∀ (r : List (Bool × Nat × Nat)) (l : List (Nat × Value)) (w : World), (∀ x ∈ r, x.1 = false) → wpA P L (fun _ => True) K r l w → wpY P L K r l w
  | [], l, w, _, h => h
  | (k, i, m) :: r, l, w, hr, h => by
    have hr' : ∀ x ∈ r, x.1 = false := fun x hx => hr x (List.mem_cons_of_mem _ hx)
    exact .inl (wpA_mono (fun l w h => wpY_of_wpA r l w hr' h) ((k, i, m) :: []) l w (wpA_one h))
theorem idp_false : ∀ (l : List Oper) (i : Nat), ∀ x ∈ idp i l, x.1 = false
  | [], _, x, h => by cases h
  | _ :: l, i, x, h => by
    unfold idp at h
    rcases List.mem_cons.1 h with rfl | h
    · rfl
    · exact idp_false l (i + 1) x h
theorem VI_region {cs : List Code} {id : Nat} {l : List (Nat × Value)} {w : World} (hk : dstOk n L = true)
    (h : wpA P L (fun _ => True) (VI P Q ro n ds cs) (idp 0 L) l w) : VI P Q ro n ds (.region id L.toArray false :: cs) l w := VI_regionY hk (wpY_of_wpA _ _ _ (idp_false _ _) h)
/-- A region of an iterator's own code that calls yield. -/
theorem V_regionY {cs : List Code} {id : Nat} {l : List (Nat × Value)} {w : World} (hk : dstOk n L = true)
    (h : wpY P L (V P Q n ds cs) (idp 0 L) l w) : V P Q n ds (.region id L.toArray false :: cs) l w := V_of_VI (VI_regionY hk (by
      have mono : ∀ {K K' : List (Nat × Value) → World → Prop} (hK : ∀ l w, K l w → K' l w) (r : List (Bool × Nat × Nat)) (l : List (Nat × Value)) (w : World), wpY P L K r l w → wpY P L K' r l w := by
        intro K K' hK r
        induction r with
        | nil => exact fun l w h => hK l w h
        | cons x r ih =>
          obtain ⟨k, i, m⟩ := x
          intro l w h
          rcases h with h | ⟨o, d, q, fn, tmps, assign, body, ho, hdd, hg, hx, h⟩
          · exact .inl (wpA_mono (fun l w h => ih l w h) _ l w h)
          · exact .inr ⟨o, d, q, fn, tmps, assign, body, ho, hdd, hg, hx, RoundIn.mono h fun e w' he => by obtain ⟨v, he, h⟩ := he; exact ⟨v, he, ih _ _ h⟩⟩
      exact mono (fun l w h => VI_of_V h) _ _ _ h))
/-- A call of yield: the loop's record is ready for it. -/
theorem Y_yield {i m d : Nat} {o : Oper} {r : List (Bool × Nat × Nat)} {l : List (Nat × Value)} {w : World} {t : Operand} {xs : List Operand} {ats : Array TypeId} {vs : List Value} {q : Nat} {rec : Loop}
    (ho : nth L i = some o) (hop : o.op = .call { callee := .value t, args := xs.toArray, argTypes := ats }) (hd : o.dst = some d) (hg : gd L l o.guard = some true)
    (ht : opv l t = some (.func (.yield q) #[] #[])) (hx : opvs l xs = some vs) (hrec : w.heap[q]? = some (.loop rec)) (hs : vs.length = rec.params.size)
    (h : RoundIn Fence.wide 0 P q rec.fn ((rec.params.zip vs.toArray).foldl (fun tmps (t, a) => tmps.setIfInBounds t a) rec.tmps) rec.assign rec.body w (fun e w' => ∃ v, e = .returned v ∧ wpY P L K r ((d, v) :: l) w')) :
    wpY P L K ((false, i, m) :: r) l w := .inr ⟨o, d, q, rec.fn, _, rec.assign, rec.body, ho, hd, hg, fun ρ hρ => by
      unfold execOp
      rw [hop]
      show (resolve ρ _ _ >>= fun d => invoke d.target d.args).run P w = _
      unfold resolve
      show (Deferred.ofValue (ρ t) (xs.toArray.map ρ) >>= fun d => invoke d.target d.args).run P w = _
      rw [hρ.opv ht]
      show (Instr.yield q ((#[] ++ xs.toArray.map ρ) ++ #[])).run P w = _
      have e : (#[] ++ xs.toArray.map ρ) ++ #[] = vs.toArray := by rw [← hρ.opvs hx]; simp
      rw [e]
      exact run_yield hrec (by simpa using hs), h⟩
end
section
variable {P : Program} {Q : Exit → Act → World → Prop} {n : Nat} {ds : List Deferred} {cs : List Code} {l : List (Nat × Value)} {w : World}
/-- One round: the assignment, then the body. -/
theorem round_of {q fn : Nat} {tmps : Array Value} {assign body : Code} {R : Ending → World → Prop} (hA : Ag n [] { tmps := tmps, defers := [] } l)
    (h : VI P (Exit.then (fun a w => ∃ l' w2, Ag n [] a l' ∧ (Instr.beginRound q).run P w = .ok () w2 ∧ VI P (roundPost P q R) (some q) n [] [body] l' w2) (fun _ _ _ => False)) (some q) n [] [assign] l w) : RoundIn Fence.wide 0 P q fn tmps assign body w R := by
  refine roundIn_of_wpIn trivial ?_
  refine Code.wpIn_mono (fun e a w h => ?_) (h _ hA)
  cases e with
  | normal =>
    obtain ⟨l', w2, ha, hb, hv⟩ := h
    exact ⟨w2, hb, hv a ha⟩
  | _ => exact h
/-- The statement. -/
theorem V_range {g : Operand} {ps : Array Tmp} {assign body : Code} {gf : FuncId} {lb : List Value} (hg : opv l g = some (.func (.func gf) #[] lb.toArray)) (hen : ∀ (u : Array Value) X, (callFunc gf u).run P X = .ok (.enter gf u) X)
    (h : ∀ (fn : FuncId) (tmps : Array Value) (rec : Loop), rec = { state := .ready, pending := none, fn := fn, tmps := tmps, params := ps, assign := assign, body := body, defers := w.heap.size } → Ag n ds { tmps := tmps, defers := ds } l →
      Calls P gf (Value.func (.yield (w.heap.size + 1)) #[] #[] :: lb).toArray ((w.alloc (.deferred (some []))).alloc (.loop rec)) fun e w3 => ∃ v r3, e = .returned v ∧ w3.heap[w.heap.size + 1]? = some (.loop r3) ∧ r3.state ≠ .busy ∧
        (match r3.pending with
         | none => V P Q n ({ target := .collected w.heap.size, args := #[] } :: ds) cs l (w3.putObj (w.heap.size + 1) (.loop { r3 with state := .exhausted }))
         | some c => V P Q n ({ target := .collected w.heap.size, args := #[] } :: ds) (c :: cs) l (w3.putObj (w.heap.size + 1) (.loop { r3 with state := .exhausted })))) :
    V P Q n ds (.rangeFunc g ps assign body :: cs) l w := V_of_VI fun a ha => by
  refine wpIn_rangeFunc (n := 0) fun fn _ => ?_
  have hA : Ag n ds { tmps := a.tmps, defers := ds } l := ⟨ha.size, rfl, ha.look⟩
  have hc := h fn a.tmps _ rfl hA
  have he := run_enterLoop_outer (P := P) (w := w) fn a.tmps ps assign body
  generalize (w.alloc (.deferred (some []))).alloc (.loop { state := .ready, pending := none, fn := fn, tmps := a.tmps, params := ps, assign := assign, body := body, defers := w.heap.size }) = w1 at hc he
  refine ⟨w.heap.size + 1, _, w1, { target := .fn (.func gf) lb.toArray, args := #[.func (.yield (w.heap.size + 1)) #[] #[]] }, w1, gf, (Value.func (.yield (w.heap.size + 1)) #[] #[] :: lb).toArray, w1, he, ?_, fun _ _ => trivial, ?_, depth_wf (ro := none), ?_⟩
  · simp only [resolve, ha.cons.opv hg]
    simp [go_sem]
  · have := hen (Value.func (.yield (w.heap.size + 1)) #[] #[] :: lb).toArray
    simpa [invoke, go_sem] using this w1
  · refine calls_wf.2 (Calls.mono hc fun e w3 he => ?_)
    obtain ⟨v, r3, rfl, hl, hb, hq⟩ := he
    refine ⟨r3.pending, _, run_endLoop hl hb, ?_⟩
    have hag : Ag n ({ target := .collected w.heap.size, args := #[] } :: ds) { a with defers := [{ target := .collected w.heap.size, args := #[] }] ++ a.defers } l := ⟨ha.size, by simp [ha.defers], ha.look⟩
    cases hp : r3.pending with
    | none => rw [hp] at hq; exact VI_of_V hq _ hag
    | some c => rw [hp] at hq; exact VI_of_V hq _ hag
/-- What the body of a function that holds ranges over functions must achieve: no panic. -/
def postM (P : Program) (fn : Func) (R : Ending → World → Prop) : Exit → Act → World → Prop
  | .ret, a, w => bodyPostM Fence.wide 0 P fn R .ret a w
  | .normal, a, w => bodyPostM Fence.wide 0 P fn R .normal a w
  | _, _, _ => False
theorem postM_panic {fn : Func} {R : Ending → World → Prop} : ∀ c (d : Option Tmp) v a w, postM P fn R (.panic c) (a.put d v) w → postM P fn R (.panic c) a w := fun _ _ _ _ _ h => h
/-- A call of a function of the program that holds ranges over functions. -/
theorem calls_byM {f : FuncId} {fn : Func} {c : Code} {vs : List Value} {R : Ending → World → Prop} (hf : P.funcs[f]? = some fn) (hb : fn.body = some c) (hn : Nat.beq fn.ntmps n = true) (hle : Nat.ble vs.length n = true)
    (h : V P (postM P fn R) n [] [c] (argl 0 vs) w) : Calls P f vs.toArray w R := by
  have hn' : vs.length ≤ n := Nat.le_of_ble_eq_true hle
  have hn2 : fn.ntmps = n := (beq_iff _ _).1 hn
  have h1 : c.wp P (bodyPostM Fence.wide 0 P fn R) { tmps := vs.toArray ++ Array.replicate (fn.ntmps - vs.toArray.size) undef, defers := [] } w := by
    refine wp_mono (h _ ⟨?_, rfl, fun t v ht => ?_⟩) fun e a w hq => ?_
    · rw [hn2]; simp; omega
    · obtain ⟨_, hj⟩ := argl_look ht
      rw [Nat.sub_zero] at hj
      have hlt : t < vs.length := (List.getElem?_eq_some_iff.1 hj).1
      show (vs.toArray ++ Array.replicate (fn.ntmps - vs.toArray.size) undef)[t]? = some v
      rw [Array.getElem?_append_left (by simpa using hlt)]
      simpa using hj
    · cases e with
      | normal => exact hq
      | ret => exact hq
      | _ => exact hq.elim
  exact callsIn_wide.1 (callsIn_of_wp_marks hf hb trivial (wpIn_wide.2 h1) rfl)
/-- The end, a mark among the deferred calls. -/
theorem postM_at {fn : Func} {R : Ending → World → Prop} {D : Nat} {l : List (Nat × Value)} {w : World} {v : Value} (hK : w.heap[D]? = some (.deferred (some [])))
    (hr : ∀ a, Ag n [{ target := .collected D, args := #[] }] a l → (results fn a.tmps).run P (w.putObj D (.deferred none)) = .ok v (w.putObj D (.deferred none))) (h : R (.returned v) (w.putObj D (.deferred none))) :
    ∀ a, Ag n [{ target := .collected D, args := #[] }] a l → postM P fn R .ret a w := fun a ha => by
  show LeavesInM Fence.wide 0 P fn a.tmps R a.defers .returning w
  rw [ha.defers]
  exact ⟨by simp, .inl ⟨D, _, rfl, run_takeDeferred hK, v, hr a ha, h⟩⟩
theorem postM_leave {fn : Func} {R : Ending → World → Prop} {D : Nat} {l : List (Nat × Value)} {w : World} {v : Value} (hK : w.heap[D]? = some (.deferred (some [])))
    (hr : ∀ a, Ag n [{ target := .collected D, args := #[] }] a l → (results fn a.tmps).run P (w.putObj D (.deferred none)) = .ok v (w.putObj D (.deferred none))) (h : R (.returned v) (w.putObj D (.deferred none))) :
    V P (postM P fn R) n [{ target := .collected D, args := #[] }] (.ret :: cs) l w := V_ret (postM_at hK hr h)
theorem foldl_one (p : Tmp) (v : Value) (tmps : Array Value) : (#[p].zip #[v]).foldl (fun t (p, v) => t.setIfInBounds p v) tmps = tmps.setIfInBounds p v := by simp
/-- The frame of a round: the loop's own, with what yield was given. -/
theorem Ag.round {tmps : Array Value} {l : List (Nat × Value)} {p : Tmp} (h : Ag n [] { tmps := tmps, defers := [] } l) (hp : p < n) (v : Value) : Ag n [] { tmps := (#[p].zip [v].toArray).foldl (fun t (p, v) => t.setIfInBounds p v) tmps, defers := [] } ((p, v) :: l) := by
  rw [show [v].toArray = #[v] from rfl, foldl_one]
  exact h.put hp v
theorem results_of2 {fn : Func} {ds : List Deferred} {l : List (Nat × Value)} {w : World} {t t2 : Tmp} {v v2 : Value} (hr : fn.results = #[.tmp t, .tmp t2]) (hv : look l t = some v) (hv2 : look l t2 = some v2) : ∀ a, Ag n ds a l → (results fn a.tmps).run P w = .ok (.tuple #[v, v2]) w := fun a ha => by
  unfold results
  rw [hr]
  have e1 : a.tmps.getD t undef = v := by rw [Array.getD_eq_getD_getElem?, ha.look t v hv]; rfl
  have e2 : a.tmps.getD t2 undef = v2 := by rw [Array.getD_eq_getD_getElem?, ha.look t2 v2 hv2]; rfl
  simp only [List.mapM_toArray, List.mapM_cons, List.mapM_nil, e1, e2]
  rfl
end
end Go.Proofs.YtbdmncpibnligaaGreatDoor.Pl
/- Small laws for the printer of walks. -/
namespace Go.Proofs.YtbdmncpibnligaaGreatDoor.Pl
open Go Go.RowKit
set_option linter.unusedVariables false
set_option linter.unusedSimpArgs false

/-! Small laws for the walk's printer (sx.py). -/
theorem a64 {a b : Nat} {x y : Int} (hx : x = (a : Int)) (hy : y = (b : Int)) (h : a + b ≤ 9223372036854775807) : IntKind.i64.wrap (x + y) = ((a + b : Nat) : Int) := by
  subst hx hy; rw [w64 (by omega) (by omega)]; omega
theorem s64 {a b : Nat} {x y : Int} (hx : x = (a : Int)) (hy : y = (b : Int)) (hb : b ≤ a) (h : a ≤ 9223372036854775807) : IntKind.i64.wrap (x - y) = ((a - b : Nat) : Int) := by
  subst hx hy; rw [w64 (by omega) (by omega)]; omega
theorem e_t {a b : Int} (h : a = b) : (a == b) = true := beq_iff_eq.2 h
theorem e_f {a b : Int} (h : a ≠ b) : (a == b) = false := beq_false_of_ne h
theorem n_t {a b : Int} (h : a ≠ b) : (a != b) = true := bne_iff_ne.2 h
theorem n_f {a b : Int} (h : a = b) : (a != b) = false := by subst h; simp
theorem c_id {k : IntKind} {a : Nat} {x : Int} (hx : x = (a : Int)) (hw : k.wrap (a : Int) = (a : Int)) : k.wrap x = ((a : Nat) : Int) := by subst hx; exact hw
section
variable {P : Program} {T : TypeId} {x y : Operand} {a b c : Nat} {za zb : Int}
theorem r_and32 (ha : a < 4294967296) (hb : b < 4294967296) (hza : za = (a : Int)) (hzb : zb = (b : Int)) (h : a &&& b = c) (X : World) : Bn P .and T x y (.int .u32 za) (.int .u32 zb) X = .ok (.int .u32 ((c : Nat) : Int)) X := by subst hza hzb; exact r_and rfl ha hb h X
end
section
variable {P : Program} {T : TypeId} {x y : Operand}
end
section
variable {P : Program} {n : Nat} {cs : List Code} {l : List (Nat × Value)} {w : World} {fn : Func} {R : Ending → World → Prop} {t t2 t3 : Tmp} {N N2 N3 : Nat} {ty ty2 ty3 : TypeId} {v v2 v3 : Value}
end
theorem add0 (g j : Nat) : (⟨g, 0, none⟩ : Addr).add (j * 1) = ⟨g, j, none⟩ := by rw [Addr.add_mid, Nat.mul_one, Nat.zero_add]
end Go.Proofs.YtbdmncpibnligaaGreatDoor.Pl
/- Drawn regions inside a round. -/
namespace Go.Proofs.YtbdmncpibnligaaGreatDoor.Pl
open Go
set_option linter.unusedVariables false

/-! A region that draws its order, inside a round of a range over a function. -/
section
variable {P : Program} {ro : Option Nat} {a : Act} {w : World}
theorem op_wf {o : Oper} {next : Act → World → Prop} {Q : Exit → Act → World → Prop} (hd : ∀ c, o.op ≠ .defer c) (h : o.wp P a w next Q) : o.wpIn (WF ro) 0 P a w next Q := by
  refine ⟨about_wf, ?_⟩
  rw [Oper.semAt_eq _ _ _ hd]
  unfold Oper.wp at h
  revert h
  generalize (execOp a.eval o).run P w = r
  intro h
  cases r with
  | ok x w' =>
    cases x with
    | value v => exact h
    | skip => exact h
    | defer d => exact h
    | enter f args => exact ⟨depth_wf, calls_wf.2 h⟩
    | row r args => exact ⟨depth_wf, fun c cs _ => let ⟨v, w', r, s⟩ := h c cs; ⟨v, w', r, stepsIn_wide.2 s⟩⟩
    | _ => exact h.elim
  | halt e w' =>
    cases e <;> first | exact h | exact h.elim
theorem opx_wf {ops : Array Oper} {Q : Exit → Act → World → Prop} {K K' : Act → World → Prop} {i : Nat} (hd : ∀ (o : Oper), ops[i]? = some o → ∀ c, o.op ≠ .defer c) (hL : ¬ LetsOut Q) (hK : ∀ a w, K a w → K' a w) (h : wpOp P ops Q i K a w) : wpOpIn (WF ro) 0 P ops Q i K' a w := by
  unfold wpOp at h
  unfold wpOpIn
  cases ho : ops[i]? with
  | none => rw [ho] at h; exact hK _ _ h
  | some o =>
    rw [ho] at h
    dsimp only at h ⊢
    by_cases hw : Region.wanted o (yielded ops a.tmps) = true
    · rw [if_pos hw] at h ⊢
      rcases h with h | h
      · exact Oper.wpIn_mono hK (op_wf (hd o ho) h)
      · exact absurd h.2 hL
    · rw [if_neg hw] at h ⊢
      exact ⟨about_wf, hK _ _ h⟩
theorem any_wf {md : Region.Mode} {ops : Array Oper} {Q : Exit → Act → World → Prop} (hd : ∀ (i : Nat) (o : Oper), ops[i]? = some o → ∀ c, o.op ≠ .defer c) (hL : ¬ LetsOut Q) : ∀ (fuel : Nat) (listed : Array Bool) (a : Act) (w : World), wpAny P md ops Q fuel listed a w → wpAnyIn (WF ro) 0 P md ops Q fuel listed a w
  | 0, _, _, _, h => h
  | fuel + 1, _, _, _, h => ⟨h.1, fun i hi => opx_wf (hd i) hL (fun a w h => any_wf hd hL fuel _ a w h) (h.2 i hi)⟩
def noDef : List Oper → Bool
  | [] => true
  | o :: l => (match o.op with
    | .defer _ => false
    | _ => true) && noDef l
theorem noDef_spec : ∀ {L : List Oper}, noDef L = true → ∀ (i : Nat) (o : Oper), L.toArray[i]? = some o → ∀ c, o.op ≠ .defer c
  | [], _, i, o, h, _ => by simp at h
  | x :: L, hk, i, o, h, c => by
    rw [noDef, Bool.and_eq_true] at hk
    cases i with
    | zero =>
      obtain rfl : x = o := by simpa using h
      intro e
      rw [e] at hk
      cases hk.1
    | succ i => exact noDef_spec hk.2 i o (by simpa using h) c
end
section
variable {P : Program} {Q : Exit → Act → World → Prop} {ro : Option Nat} {n : Nat} {ds : List Deferred} {cs : List Code} {l : List (Nat × Value)} {w : World}
theorem VI_draw {id : Nat} {L : List Oper} {S : World → Prop} (r : List (Bool × Nat × Nat)) (hm : P.follows .mixedOrders = true)
    (hQ : ∀ c (d : Option Tmp) v a w, KsI P ro Q cs (.panic c) (a.put d v) w → KsI P ro Q cs (.panic c) a w) (hL : ¬ LetsOut (KsI P ro Q cs)) (hk : drawOk n L r = true) (hn : noDef L = true) (hS : S w.drew)
    (h : S w.drew → wpA P L S (VI P Q ro n ds cs) r l w.drew) : VI P Q ro n ds (.region id L.toArray true :: cs) l w := by
  rw [drawOk, Bool.and_eq_true, Bool.and_eq_true, Bool.and_eq_true] at hk
  intro a ha
  refine wpIn_region_any hm (any_wf (noDef_spec hn) hL _ _ _ _ (wpAny_of_held (S := S) _ _ _ _ ?_))
  have := wpA_G (Q := KsI P ro Q cs) (f := 0) hk.1 hQ (dstOk_spec hk.2.2.2) r 0 l w.drew hk.2.1 (wpA_mono (fun l w hx => G_end (by rw [beq_iff]) fun _ a ha => hx a ha) r l w.drew (h hS))
  rw [Nat.add_zero, (beq_iff _ _).1 hk.2.2.1] at this
  exact this a _ ha (Lst.new _) hS
end
section
variable {P : Program} {Q : Exit → Act → World → Prop} {ro : Option Nat} {n : Nat} {ds : List Deferred} {cs : List Code} {l : List (Nat × Value)} {w : World}
theorem VI_drawG {id : Nat} {L : List Oper} {S : World → Prop} (hm : P.follows .mixedOrders = true) (hL : ¬ LetsOut (KsI P ro Q cs)) (hn : noDef L = true) (hS : S w.drew)
    (h : S w.drew → G P L S (KsI P ro Q cs) n ds L.toArray.size 0 l w.drew) : VI P Q ro n ds (.region id L.toArray true :: cs) l w := fun a ha =>
  wpIn_region_any hm (any_wf (noDef_spec hn) hL _ _ _ _ (wpAny_of_held (S := S) _ _ _ _ (h hS a _ ha (Lst.new _) hS)))
theorem G_VI {L : List Oper} {S : World → Prop} {f M : Nat} (hM : Nat.beq M (Nat.sub (2 ^ L.toArray.size) 1) = true) (h : VI P Q ro n ds cs l w) : G P L S (KsI P ro Q cs) n ds f M l w := G_end hM fun _ a ha => h a ha
theorem GI_plan {L : List Oper} {S : World → Prop} {M : Nat} (r : List (Bool × Nat × Nat)) (e f : Nat) {g : Nat} (hQ : ∀ c (d : Option Tmp) v a w, KsI P ro Q cs (.panic c) (a.put d v) w → KsI P ro Q cs (.panic c) a w) (hk : mixOk n L = true) (hg : Nat.beq (Nat.add r.length f) g = true)
    (hp : planOk (tabs L.toArray) e r M = true) (h : wpA P L S (G P L S (KsI P ro Q cs) n ds f e) r l w) : G P L S (KsI P ro Q cs) n ds g M l w :=
  G_plan (cs := []) (Q := KsI P ro Q cs) r e f hQ hk hg hp h
theorem GI_any {L : List Oper} {S : World → Prop} {M : Nat} (rs : List Nat) (f : Nat) {g : Nat} (hk : mixOk n L = true) (hg : Nat.beq (Nat.succ f) g = true) (hr : rdyOk (tabs L.toArray) M rs = true) (h : AllG P L S (KsI P ro Q cs) n ds f M l w rs) : G P L S (KsI P ro Q cs) n ds g M l w :=
  G_any (cs := []) (Q := KsI P ro Q cs) rs f hk hg hr h
end
end Go.Proofs.YtbdmncpibnligaaGreatDoor.Pl
