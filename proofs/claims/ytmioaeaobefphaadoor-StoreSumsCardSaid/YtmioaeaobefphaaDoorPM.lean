/- A region walked by a plan, its frame a list of what is known of it. -/
import Derived.Test.YtmioaeaobefphaaDoorPL
import Derived.BigCall
namespace Go.Proofs.YtmioaeaobefphaaDoor.Pl
open Go
set_option linter.unusedVariables false

/-! A region walked by a plan, its frame a list of what is known of it. -/
def look : List (Nat × Value) → Nat → Option Value
  | [], _ => none
  | (d, v) :: l, t => match Nat.beq d t with
    | true => some v
    | false => look l t
def opv (l : List (Nat × Value)) : Operand → Option Value
  | .tmp t => look l t
  | .const v => some v
  | .global g => some (.pointer (some ⟨g, 0, none⟩))
  | .func f => some (.func (.func f) #[] #[])
def opvs (l : List (Nat × Value)) : List Operand → Option (List Value)
  | [] => some []
  | x :: xs => match opv l x with
    | none => none
    | some v => match opvs l xs with
      | none => none
      | some vs => some (v :: vs)
/-- What an operation may ask of a frame of which this much is known. -/
structure Cons (ρ : Operand → Value) (l : List (Nat × Value)) : Prop where
  tmp : ∀ t v, look l t = some v → ρ (.tmp t) = v
  const : ∀ v, ρ (.const v) = v
  global : ∀ g, ρ (.global g) = .pointer (some ⟨g, 0, none⟩)
  func : ∀ f, ρ (.func f) = .func (.func f) #[] #[]
theorem Cons.opv {ρ : Operand → Value} {l : List (Nat × Value)} (h : Cons ρ l) {x : Operand} {v : Value} (e : Pl.opv l x = some v) : ρ x = v := by
  cases x with
  | tmp t => exact h.tmp t v e
  | const u => rw [h.const]; exact Option.some.inj e
  | global g => rw [h.global]; exact Option.some.inj e
  | func f => rw [h.func]; exact Option.some.inj e
theorem Cons.opvs {ρ : Operand → Value} {l : List (Nat × Value)} (h : Cons ρ l) : ∀ {xs : List Operand} {vs : List Value}, Pl.opvs l xs = some vs → xs.map ρ = vs
  | [], vs, e => by cases e; rfl
  | x :: xs, vs, e => by
    unfold Pl.opvs at e
    cases hx : Pl.opv l x with
    | none => rw [hx] at e; cases e
    | some v =>
      rw [hx] at e
      cases hxs : Pl.opvs l xs with
      | none => rw [hxs] at e; cases e
      | some us =>
        rw [hxs] at e
        cases e
        rw [List.map_cons, h.opv hx, h.opvs hxs]
/-- This much is known of a frame of n slots. -/
structure Ag (n : Nat) (ds : List Deferred) (a : Act) (l : List (Nat × Value)) : Prop where
  size : a.tmps.size = n
  defers : a.defers = ds
  look : ∀ t v, Pl.look l t = some v → a.tmps[t]? = some v
theorem Ag.put {n : Nat} {ds : List Deferred} {a : Act} {l : List (Nat × Value)} (h : Ag n ds a l) {d : Nat} (hd : d < n) (v : Value) : Ag n ds (a.put (some d) v) ((d, v) :: l) where
  size := by show (a.tmps.setIfInBounds d v).size = n; rw [Array.size_setIfInBounds]; exact h.size
  defers := h.defers
  look t u hu := by
    show (a.tmps.setIfInBounds d v)[t]? = some u
    unfold Pl.look at hu
    cases hb : Nat.beq d t with
    | true =>
      rw [hb] at hu
      obtain rfl : d = t := Nat.eq_of_beq_eq_true hb
      rw [Array.getElem?_setIfInBounds_self_of_lt (by rw [h.size]; exact hd)]
      exact hu
    | false =>
      rw [hb] at hu
      rw [Array.getElem?_setIfInBounds_ne (Nat.ne_of_beq_eq_false hb)]
      exact h.look t u hu
theorem Ag.cons {n : Nat} {ds : List Deferred} {a : Act} {l : List (Nat × Value)} (h : Ag n ds a l) : Cons a.eval l where
  tmp t v hv := by
    show a.tmps.getD t undef = v
    rw [Array.getD_eq_getD_getElem?, h.look t v hv]; rfl
  const _ := rfl
  global _ := rfl
  func _ := rfl
/-- Less is known as well. -/
theorem Ag.less {n : Nat} {ds : List Deferred} {a : Act} {l l' : List (Nat × Value)} (h : Ag n ds a l) (hl : ∀ t v, Pl.look l' t = some v → Pl.look l t = some v) : Ag n ds a l' := ⟨h.size, h.defers, fun t v hv => h.look t v (hl t v hv)⟩

def nth : List Oper → Nat → Option Oper
  | [], _ => none
  | o :: _, 0 => some o
  | _ :: l, n + 1 => nth l n
theorem nth_eq : ∀ (l : List Oper) (i : Nat), nth l i = l[i]?
  | [], _ => by simp [nth]
  | _ :: _, 0 => by simp [nth]
  | _ :: l, n + 1 => by simp only [nth, nth_eq l n, List.getElem?_cons_succ]
/-- Is it wanted, by looking? -/
def gd (L : List Oper) (l : List (Nat × Value)) : Option (Nat × Bool) → Option Bool
  | none => some true
  | some (j, b) => match nth L j with
    | none => none
    | some oj => match oj.dst with
      | none => none
      | some d => match look l d with
        | some (.bool c) => some (c == b)
        | some (.tuple _) => some false
        | _ => none
theorem gd_wanted {L : List Oper} {n : Nat} {ds : List Deferred} {a : Act} {l : List (Nat × Value)} (hl : Ag n ds a l) {o : Oper} {b : Bool} (h : gd L l o.guard = some b) : Region.wanted o (yielded L.toArray a.tmps) = b := by
  unfold Region.wanted
  cases hg : o.guard with
  | none => rw [hg] at h; exact Option.some.inj h
  | some g =>
    obtain ⟨j, c⟩ := g
    rw [hg] at h
    unfold gd at h
    dsimp only at h
    show (yielded L.toArray a.tmps j == some c) = b
    unfold yielded
    rw [nth_eq] at h
    rw [List.getElem?_toArray]
    cases ho : L[j]? with
    | none => rw [ho] at h; cases h
    | some oj =>
      rw [ho] at h
      cases hd : oj.dst with
      | none => simp only [hd] at h; cases h
      | some d =>
        simp only [hd] at h
        cases hk : look l d with
        | none => rw [hk] at h; cases h
        | some v =>
          rw [hk] at h
          simp only [Option.bind_some, hd, hl.look d v hk]
          cases v <;> first | (cases h; done) | (cases h; rfl)
def dstOk (n : Nat) : List Oper → Bool
  | [] => true
  | o :: l => (match o.dst with
    | some d => Nat.blt d n
    | none => true) && dstOk n l
theorem dstOk_spec {n : Nat} : ∀ {L : List Oper}, dstOk n L = true → ∀ i o d, nth L i = some o → o.dst = some d → d < n
  | [], _, i, o, d, h, _ => by cases h
  | x :: L, hk, i, o, d, h, hd => by
    rw [dstOk, Bool.and_eq_true] at hk
    cases i with
    | zero =>
      obtain rfl : x = o := Option.some.inj h
      have h1 := hk.1
      rw [hd] at h1
      exact Nat.lt_of_lt_of_le (Nat.lt_succ_self d) (Nat.le_of_ble_eq_true h1)
    | succ i => exact dstOk_spec hk.2 i o d h hd

section
variable {P : Program} {L : List Oper} {S : World → Prop} {K : List (Nat × Value) → World → Prop} {Q : Exit → Act → World → Prop} {n f : Nat} {ds : List Deferred}

/-- The operations of a plan (is it taken first; its number; what has come up before), one after another. -/
def wpA (P : Program) (L : List Oper) (S : World → Prop) (K : List (Nat × Value) → World → Prop) : List (Bool × Nat × Nat) → List (Nat × Value) → World → Prop
  | [], l, w => K l w
  | (k, i, _) :: r, l, w => ∃ o, nth L i = some o ∧
    ((∃ d v, k = true ∧ o.dst = some d ∧ gd L l o.guard = some true ∧ (∀ ρ, Cons ρ l → ∀ X, S X → (execOp ρ o).run P X = .ok (.value v) X) ∧ wpA P L S K r ((d, v) :: l) w)
    ∨ (∃ d, o.dst = some d ∧ gd L l o.guard = some false ∧ wpA P L S K r ((d, undef) :: l) w)
    ∨ (∃ d f vs, k = false ∧ o.dst = some d ∧ gd L l o.guard = some true ∧ (∀ ρ, Cons ρ l → (execOp ρ o).run P w = .ok (.enter f vs) w) ∧
        Calls P f vs w (fun e w' => ∃ v, e = .returned v ∧ S w' ∧ wpA P L S K r ((d, v) :: l) w'))
    ∨ (∃ d v w', k = false ∧ o.dst = some d ∧ gd L l o.guard = some true ∧ (∀ ρ, Cons ρ l → (execOp ρ o).run P w = .ok (.value v) w') ∧ S w' ∧ wpA P L S K r ((d, v) :: l) w')
    ∨ (∃ w', k = false ∧ o.dst = none ∧ gd L l o.guard = some true ∧ (∀ ρ, Cons ρ l → (execOp ρ o).run P w = .ok .skip w') ∧ S w' ∧ wpA P L S K r l w'))

/-- What is left of a drawn region, behind M. -/
def G (P : Program) (L : List Oper) (S : World → Prop) (Q : Exit → Act → World → Prop) (n : Nat) (ds : List Deferred) (f M : Nat) (l : List (Nat × Value)) (w : World) : Prop :=
  ∀ a listed, Ag n ds a l → Lst L.toArray.size M listed → S w → wpAnyH P .any L.toArray Q S f listed a w

/-- One operation in its turn. -/
theorem step_op {k : Bool} {i m : Nat} {l : List (Nat × Value)} {w : World} {a : Act} {o : Oper} {R : Act → World → Prop} (hd : ∀ d, o.dst = some d → d < n) (ho : nth L i = some o) (ha : Ag n ds a l) (hS : S w)
    (h : wpA P L S K ((false, i, m) :: []) l w) (hR : ∀ a l w, Ag n ds a l → S w → K l w → R a w) : wpOp P L.toArray Q i (fun a' w' => S w' ∧ R a' w') a w := by
  obtain ⟨o', ho', h⟩ := h
  obtain rfl : o = o' := Option.some.inj (ho.symm.trans ho')
  have hoi : L.toArray[i]? = some o := by rw [List.getElem?_toArray, ← nth_eq]; exact ho
  unfold wpOp
  simp only [hoi]
  rcases h with ⟨d, v, h1, _⟩ | ⟨d, hdd, hg, h⟩ | ⟨d, f, vs, h1, hdd, hg, hx, h⟩ | ⟨d, v, w', h1, hdd, hg, hx, hS', h⟩ | ⟨w', h1, hdd, hg, hx, hS', h⟩
  · cases h1
  · rw [if_neg (by rw [gd_wanted ha hg]; exact Bool.false_ne_true), hdd]
    exact ⟨hS, hR _ _ _ (ha.put (hd d hdd) _) hS h⟩
  · rw [if_pos (gd_wanted ha hg)]
    refine .inl ?_
    unfold Oper.wp
    rw [hx _ ha.cons, Oper.upon_enter]
    refine Calls.mono h fun e w' he => ?_
    obtain ⟨v, rfl, hS', h⟩ := he
    rw [hdd]
    exact ⟨hS', hR _ _ _ (ha.put (hd d hdd) _) hS' h⟩
  · rw [if_pos (gd_wanted ha hg)]
    refine .inl ?_
    unfold Oper.wp
    rw [hx _ ha.cons, Oper.upon_value, hdd]
    exact ⟨hS', hR _ _ _ (ha.put (hd d hdd) _) hS' h⟩
  · rw [if_pos (gd_wanted ha hg)]
    refine .inl ?_
    unfold Oper.wp
    rw [hx _ ha.cons, Oper.upon_skip, hdd]
    exact ⟨hS', hR _ _ _ ha hS' h⟩

theorem wpA_one {k : Bool} {i m : Nat} {r : List (Bool × Nat × Nat)} {l : List (Nat × Value)} {w : World} (h : wpA P L S K ((k, i, m) :: r) l w) : wpA P L S (wpA P L S K r) ((k, i, m) :: []) l w := h

/-- By a plan as far as it goes. -/
theorem wpA_G (hs : Region.noSelect L.toArray = true) (hQ : ∀ c (d : Option Tmp) v a w, Q (.panic c) (a.put d v) w → Q (.panic c) a w) (hd : ∀ i o d, nth L i = some o → o.dst = some d → d < n) {e : Nat} :
    ∀ (r : List (Bool × Nat × Nat)) (M : Nat) (l : List (Nat × Value)) (w : World), planOk (tabs L.toArray) e r M = true → wpA P L S (G P L S Q n ds f e) r l w → G P L S Q n ds (r.length + f) M l w
  | [], M, l, w, hp, h => by
    obtain rfl : M = e := (beq_iff _ _).1 hp
    rw [List.length_nil, Nat.zero_add]
    exact h
  | (k, i, m) :: r, M, l, w, hp, h => by
    intro a listed ha hL hS
    rw [planOk, Bool.and_eq_true, Bool.and_eq_true] at hp
    obtain ⟨⟨hM, hp1⟩, hp2⟩ := hp
    obtain rfl : M = m := (beq_iff _ _).1 hM
    cases ht : (tabs L.toArray)[i]? with
    | none => rw [ht] at hp1; cases hp1
    | some t =>
      obtain ⟨o, ho, rfl⟩ := tabs_has ht
      rw [ht] at hp1
      have hoi : nth L i = some o := by rw [nth_eq, ← List.getElem?_toArray]; exact ho
      have hlt : i < L.toArray.size := (Array.getElem?_eq_some_iff.1 ho).1
      simp only [Bool.and_eq_true, Bool.not_eq_true'] at hp1
      obtain ⟨⟨hun, hA⟩, hk⟩ := hp1
      rw [tb_eq] at hun
      have hin : i ∈ Region.ready .any L.toArray listed := (ready_iff (n := 0) hL).2 ⟨o, ho, hun, hA⟩
      have hL' := hL.put hlt
      have ih : ∀ a l w, Ag n ds a l → S w → wpA P L S (G P L S Q n ds f e) r l w → wpAnyH P .any L.toArray Q S (r.length + f) (listed.setIfInBounds i true) a w := fun a l w ha hS h => wpA_G hs hQ hd r _ l w hp2 h a _ ha hL' hS
      rw [List.length_cons, show r.length + 1 + f = (r.length + f) + 1 from by omega]
      cases k with
      | true =>
        have hfree : ∀ j oj, L.toArray[j]? = some oj → j ≠ i → listed.getD j true = false → (∀ e ∈ oj.after, Region.binds .any e = true → e.on ≠ i) → o.apart L.toArray oj = true := by
          intro j oj hj hne hl hno
          have hjl : j < L.toArray.size := (Array.getElem?_eq_some_iff.1 hj).1
          have hA0 : (row L.toArray oj).A.testBit i = false := by
            cases hb : (row L.toArray oj).A.testBit i
            · rfl
            · obtain ⟨e, he, hbe, hon⟩ := row_A.1 hb
              exact absurd hon (hno e he hbe)
          obtain ⟨h1, h2⟩ := freeIn_spec (tabs L.toArray) 0 hk j _ (tabs_at hj) (by rw [Nat.zero_add]; exact hne) (by rw [Nat.zero_add, ← hL.t hjl]; exact hl) hA0
          exact apart_of h1 h2
        have go : ∀ v, YieldsIf P L.toArray S o v a → wpAnyH P .any L.toArray Q S (r.length + f) (listed.setIfInBounds i true) (a.put o.dst v) w → wpAnyH P .any L.toArray Q S ((r.length + f) + 1) listed a w := fun v hy hh =>
          wpAnyH_first (v := v) ho (Region.noSelect_spec hs) (fun c a w hq => hQ c _ _ a w hq) (r.length + f) listed a w hfree hin hy hS hh
        obtain ⟨o', ho', h⟩ := h
        obtain rfl : o = o' := Option.some.inj (hoi.symm.trans ho')
        rcases h with ⟨d, v, h1, hdd, hg, hy, h⟩ | ⟨d, hdd, hg, h⟩ | ⟨d, f', vs, h1, _⟩ | ⟨d, v, w', h1, _⟩ | ⟨w', h1, _⟩
        · exact go v (.inl ⟨gd_wanted ha hg, fun X hX => hy _ ha.cons X hX⟩) (by rw [hdd]; exact ih _ _ w (ha.put (hd i o d hoi hdd) v) hS h)
        · exact go undef (.inr ⟨gd_wanted ha hg, rfl⟩) (by rw [hdd]; exact ih _ _ w (ha.put (hd i o d hoi hdd) undef) hS h)
        · cases h1
        · cases h1
        · cases h1
      | false =>
        refine ⟨fun h0 => (by rw [h0] at hin; cases hin), fun j hj => ?_⟩
        have hji : j = i := by
          obtain ⟨oj, hoj, h1, h2⟩ := (ready_iff (n := 0) hL).1 hj
          refine Classical.byContradiction fun hne => ?_
          have := onlyIn_spec (tabs L.toArray) 0 hk j _ (tabs_at hoj) (by rw [Nat.zero_add]; exact hne) (by rw [Nat.zero_add]; exact h1)
          rw [this] at h2; cases h2
        subst hji
        exact step_op (k := false) (m := M) (hd j o · hoi) hoi ha hS (wpA_one h) (fun a l w ha hS h => ih a l w ha hS h)

/-- Each of these comes up next. -/
def AllG (P : Program) (L : List Oper) (S : World → Prop) (Q : Exit → Act → World → Prop) (n : Nat) (ds : List Deferred) (f M : Nat) (l : List (Nat × Value)) (w : World) : List Nat → Prop
  | [] => True
  | i :: rs => wpA P L S (G P L S Q n ds f (Nat.lor M (Nat.shiftLeft 1 i))) ((false, i, M) :: []) l w ∧ AllG P L S Q n ds f M l w rs
theorem AllG_mem {M : Nat} {l : List (Nat × Value)} {w : World} : ∀ {rs : List Nat}, AllG P L S Q n ds f M l w rs → ∀ i ∈ rs, wpA P L S (G P L S Q n ds f (Nat.lor M (Nat.shiftLeft 1 i))) ((false, i, M) :: []) l w
  | [], _, i, hi => by cases hi
  | j :: rs, h, i, hi => by
    rcases List.mem_cons.1 hi with rfl | hi
    · exact h.1
    · exact AllG_mem h.2 i hi
/-- Whichever comes up. -/
theorem G_all (hd : ∀ i o d, nth L i = some o → o.dst = some d → d < n) {M : Nat} {l : List (Nat × Value)} {w : World} (rs : List Nat) (hr : rdyOk (tabs L.toArray) M rs = true) (h : AllG P L S Q n ds f M l w rs) : G P L S Q n ds (f + 1) M l w := by
  intro a listed ha hL hS
  unfold rdyOk at hr
  rw [Bool.and_eq_true] at hr
  refine ⟨fun h0 => ?_, fun j hj => ?_⟩
  · cases rs with
    | nil => cases hr.2
    | cons i rs =>
      have h2 := hr.2
      simp only [mayCome] at h2
      cases ht : (tabs L.toArray)[i]? with
      | none => rw [ht] at h2; cases h2
      | some t =>
        obtain ⟨o, ho, rfl⟩ := tabs_has ht
        rw [ht] at h2
        simp only [Bool.and_eq_true, Bool.not_eq_true'] at h2
        rw [tb_eq] at h2
        have hin : i ∈ Region.ready .any L.toArray listed := (ready_iff (n := 0) hL).2 ⟨o, ho, h2.1, h2.2⟩
        rw [h0] at hin; cases hin
  · obtain ⟨o, ho, h1, h2⟩ := (ready_iff (n := 0) hL).1 hj
    have hoi : nth L j = some o := by rw [nth_eq, ← List.getElem?_toArray]; exact ho
    have hlt : j < L.toArray.size := (Array.getElem?_eq_some_iff.1 ho).1
    have hm := rdyIn_spec (tabs L.toArray) 0 hr.1 j _ (tabs_at ho) (by rw [Nat.zero_add]; exact h1) h2
    rw [Nat.zero_add] at hm
    exact step_op (k := false) (m := M) (hd j o · hoi) hoi ha hS (AllG_mem h j hm) (fun a l w ha hS h => h a _ ha (hL.put hlt) hS)
/-- All have come up. -/
theorem G_end {l : List (Nat × Value)} {w : World} {M : Nat} (hM : Nat.beq M (Nat.sub (2 ^ L.toArray.size) 1) = true) (h : S w → ∀ a, Ag n ds a l → Q .normal a w) : G P L S Q n ds f M l w := by
  intro a listed ha hL hS
  obtain rfl : M = 2 ^ L.toArray.size - 1 := (beq_iff _ _).1 hM
  exact wpAnyH_done (full_ready hL) (h hS a ha) f

def idp : Nat → List Oper → List (Bool × Nat × Nat)
  | _, [] => []
  | i, _ :: l => (false, i, 0) :: idp (i + 1) l
theorem nth_drop {L : List Oper} {o : Oper} : ∀ {pre rest : List Oper}, L = pre ++ o :: rest → nth L pre.length = some o := fun h => by
  rw [nth_eq, h]; simp
/-- A region that draws nothing. -/
theorem wpList_sound (hd : ∀ i o d, nth L i = some o → o.dst = some d → d < n) :
    ∀ (rest pre : List Oper) (l : List (Nat × Value)) (w : World) (a : Act), L = pre ++ rest → Ag n ds a l → S w → wpA P L S (fun l w => ∀ a, Ag n ds a l → Q .normal a w) (idp pre.length rest) l w → wpList P L.toArray Q rest a w
  | [], pre, l, w, a, _, ha, _, h => h a ha
  | o :: rest, pre, l, w, a, hL, ha, hS, h => by
    have hoi := nth_drop hL
    have hL' : L = (pre ++ [o]) ++ rest := by rw [hL]; simp
    have hlen : (pre ++ [o]).length = pre.length + 1 := by simp
    have h1 := step_op (k := false) (m := 0) (Q := Q) (R := fun a w => wpList P L.toArray Q rest a w) (hd _ o · hoi) hoi ha hS (wpA_one h)
      (fun a l w ha hS h => wpList_sound hd rest (pre ++ [o]) l w a hL' ha hS (by rw [hlen]; exact h))
    have hop : L.toArray[pre.length]? = some o := by rw [List.getElem?_toArray, ← nth_eq]; exact hoi
    unfold wpOp at h1
    rw [hop] at h1
    dsimp only at h1
    unfold wpList
    by_cases hw : Region.wanted o (yielded L.toArray a.tmps) = true
    · rw [if_pos hw] at h1 ⊢
      rcases h1 with h1 | h1
      · exact .inl (Oper.wp_mono (fun a w h => h.2) h1)
      · exact .inr h1
    · rw [if_neg hw] at h1 ⊢
      exact h1.2
end
end Go.Proofs.YtmioaeaobefphaaDoor.Pl
