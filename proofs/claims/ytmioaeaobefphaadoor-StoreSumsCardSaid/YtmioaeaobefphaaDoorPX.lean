/- A row of structs that grows. -/
import Derived.Test.YtmioaeaobefphaaDoorPN
import Derived.Laws.AppendOwn
import Derived.Below
namespace Go.Proofs.YtmioaeaobefphaaDoor.Pl
open Go
set_option linter.unusedVariables false

/-! A drawn region inside a loop: how a panic goes through. -/
section
variable {P : Program} {Q : Exit → Act → World → Prop}
theorem pn_block {id : Nat} (hQ : ∀ c (d : Option Tmp) v a w, Q (.panic c) (a.put d v) w → Q (.panic c) a w) : ∀ c (d : Option Tmp) v a w, Exit.inBlock id Q (.panic c) (a.put d v) w → Exit.inBlock id Q (.panic c) a w := fun c d v a w h => hQ c d v a w h
theorem pn_then {R : Act → World → Prop} (hQ : ∀ c (d : Option Tmp) v a w, Q (.panic c) (a.put d v) w → Q (.panic c) a w) : ∀ c (d : Option Tmp) v a w, Exit.then R Q (.panic c) (a.put d v) w → Exit.then R Q (.panic c) a w := fun c d v a w h => hQ c d v a w h
theorem pn_ks {cs : List Code} (hQ : ∀ c (d : Option Tmp) v a w, Q (.panic c) (a.put d v) w → Q (.panic c) a w) : ∀ c (d : Option Tmp) v a w, Ks P Q cs (.panic c) (a.put d v) w → Ks P Q cs (.panic c) a w := fun c d v a w h => Ks_panic.2 (hQ c d v a w (Ks_panic.1 h))
end
/-! Functions as values. -/
section
variable {P : Program} {L : List Oper} {S : World → Prop} {K : List (Nat × Value) → World → Prop} {k : Bool} {i m d : Nat} {o : Oper} {r : List (Bool × Nat × Nat)} {l : List (Nat × Value)} {w w' : World} {v : Value}
/-- A function value is called: what it was made with stands before the arguments, what it holds behind them. -/
theorem pA_callV {f : FuncId} {t : Operand} {xs : List Operand} {ats : Array TypeId} {fs vs cap : List Value} (ho : nth L i = some o) (hop : o.op = .call { callee := .value t, args := xs.toArray, argTypes := ats }) (hd : o.dst = some d)
    (hg : gd L l o.guard = some true) (ht : opv l t = some (.func (.func f) fs.toArray cap.toArray)) (hx : opvs l xs = some vs) (hf : ∀ (u : Array Value) X, (callFunc f u).run P X = .ok (.enter f u) X)
    (hc : Calls P f (fs ++ (vs ++ cap)).toArray w (fun e w' => ∃ v, e = .returned v ∧ S w' ∧ wpA P L S K r ((d, v) :: l) w')) : wpA P L S K ((false, i, m) :: r) l w :=
  ⟨o, ho, .inr (.inr (.inl ⟨d, f, (fs ++ (vs ++ cap)).toArray, rfl, hd, hg, fun ρ hρ => by
    unfold execOp
    rw [hop]
    show (resolve ρ _ _ >>= fun d => invoke d.target d.args).run P w = _
    unfold resolve
    show (Deferred.ofValue (ρ t) (xs.toArray.map ρ) >>= fun d => invoke d.target d.args).run P w = _
    rw [hρ.opv ht]
    show (callFunc f ((fs.toArray ++ xs.toArray.map ρ) ++ cap.toArray)).run P w = _
    have e : (fs.toArray ++ xs.toArray.map ρ) ++ cap.toArray = (fs ++ (vs ++ cap)).toArray := by rw [← hρ.opvs hx]; simp
    rw [e]
    exact hf _ w, hc⟩))⟩
/-- A function value is made. -/
theorem qA_func {f : FuncId} {fst cap : List Operand} {fs vs : List Value} (hS : S w) (ho : nth L i = some o) (hop : o.op = .makeFunc (.func f) fst.toArray cap.toArray) (hd : o.dst = some d) (hg : gd L l o.guard = some true) (hf : opvs l fst = some fs) (hx : opvs l cap = some vs)
    (h : wpA P L S K r ((d, .func (.func f) fs.toArray vs.toArray) :: l) w) : wpA P L S K ((k, i, m) :: r) l w :=
  pA_pure hS ho hd hg (fun ρ hρ X _ => by
    unfold execOp; rw [hop]
    refine run_val _ X ?_
    have e : cap.toArray.map ρ = vs.toArray := by rw [← hρ.opvs hx]; simp
    have e1 : fst.toArray.map ρ = fs.toArray := by rw [← hρ.opvs hf]; simp
    show (Instr.makeFunc (.func f) (fst.toArray.map ρ) (cap.toArray.map ρ)).run P X = _
    rw [e, e1]
    simp [Instr.makeFunc]) h
end
/-- The end of a function without results. -/
theorem post_none {P : Program} {n : Nat} {l : List (Nat × Value)} {w : World} {fn : Func} {R : Ending → World → Prop} (hr : fn.results = #[]) (h : R (.returned (.tuple #[])) w) : V P (bodyPost P fn R) n [] [] l w := fun a ha => by
  refine ⟨ha.defers, .tuple #[], ?_, h⟩
  unfold results
  rw [hr]
  simp
/-! A row of structs that grows, of which is known what its spare places may hold. -/
/-- A row of the call's own: its block's cells, each of a kind that 'ok' allows. -/
def Gr (ok : Value → Prop) (w : World) (base : Nat) (e : TypeId) (size : Nat) (v : Value) (n : Nat) (xs : List Value) : Prop :=
  xs.length = n * size ∧ ((v = .slice none 0 0 ∧ n = 0) ∨
    ∃ g cap cur, v = .slice (some ⟨g, 0, none⟩) n cap ∧ base ≤ g ∧ w.heap[g]? = some (.cells cur e (0, 0)) ∧ n ≤ cap ∧ cap ≤ maxLen ∧ cur.size = cap * size ∧ cur.toList.take (n * size) = xs ∧ ∀ c ∈ cur.toList, ok c)
section
variable {P : Program} {ok : Value → Prop} {w w' : World} {base : Nat} {e : TypeId} {size : Nat} {v : Value} {n : Nat} {xs : List Value}
theorem Gr.nil : Gr ok w base e size (.slice none 0 0) 0 [] := ⟨by simp, .inl ⟨rfl, rfl⟩⟩
theorem Gr.own (h : Gr ok w base e size v n xs) : w.ownsRow base e size v n xs := ⟨h.1, h.2.imp id fun ⟨g, cap, cur, h1, h2, h3, h4, h5, h6, h7, _⟩ => ⟨g, cap, cur, h1, h2, h3, h4, h5, h6, h7⟩⟩
theorem Gr.kept {row : Option Nat} (h : Gr ok w base e size v n xs) (hg : w.grownBy w' row) (hne : v.ownBlock = none ∨ v.ownBlock ≠ row) : Gr ok w' base e size v n xs := by
  refine ⟨h.1, ?_⟩
  rcases h.2 with hn | ⟨g, cap, cur, rfl, hb, hgg, rest⟩
  · exact .inl hn
  · refine .inr ⟨g, cap, cur, rfl, hb, ?_, rest⟩
    rw [hg.block g (Array.getElem?_eq_some_iff.1 hgg).1 (by simpa [Value.ownBlock] using hne)]
    exact hgg
/-- A row that is made of some cells at once. -/
theorem Gr.made (w : World) (base : Nat) (e : TypeId) (size n : Nat) (cur : List Value) (hb : base ≤ w.heap.size) (hs : cur.length = n * size) (hm : n ≤ maxLen) (hok : ∀ c ∈ cur, ok c) : Gr ok (w.alloc (.cells cur.toArray e)) base e size (.slice (some ⟨w.heap.size, 0, none⟩) n n) n cur :=
  ⟨hs, .inr ⟨w.heap.size, n, cur.toArray, rfl, hb, _root_.Go.heap_alloc_new w _, Nat.le_refl _, hm, by simpa using hs, by rw [← hs]; simp, by simpa using hok⟩⟩
/-- What lies in the row's block is of such a kind. -/
theorem Gr.cell_ok (h : Gr ok w base e size v n xs) {a : Addr} {u : Value} (hb : v.ownBlock = some a.block) (hu : w.cell? a = some u) : ok u := by
  rcases h.2 with ⟨rfl, _⟩ | ⟨g, cap, cur, rfl, _, hgg, _, _, _, _, hok⟩
  · simp [Value.ownBlock] at hb
  · simp [Value.ownBlock] at hb
    subst hb
    unfold World.cell? at hu
    rw [hgg] at hu
    refine hok u ?_
    simp at hu
    exact Array.mem_toList_iff.2 (Array.mem_of_getElem? hu.2)
/-- More is appended. -/
theorem gr_push (w : World) (t ty : TypeId) (i : TypeInfo) (z : Value) (bytes : Nat) (ht : P.underlying t = some (.slice e)) (hi : P.info? e = some i) (hz : i.zero = some z) (hsize : i.size = size) (hby : i.bytes = bytes) (hzs : z.cells.size = size)
    (hok0 : ∀ c ∈ z.cells.toList, ok c) (h : Gr ok w base e size v n xs)
    (a : Addr) (m c : Nat) (news : List Value) (hl : news.length = m * size) (hm : 0 < m) (hnews : ∀ j u, news[j]? = some u → w.cell? (a.add j) = some u) (h1 : ∀ u ∈ news, u.oneCell' = true) (hokn : ∀ u ∈ news, ok u)
    (h63 : n + m ≤ maxLen) (hbytes : (n + m) * bytes ≤ 140737488355328) (hbase : base ≤ w.heap.size) :
    ∃ v' w', (Builtin.append_ #[t, t] ty #[v, .slice (some a) m c]).run P w = .ok v' w' ∧ Gr ok w' base e size v' (n + m) (xs ++ news) ∧ w.grownBy w' v.ownBlock := by
  subst hsize
  subst hby
  have hsmall : n + m ≤ 9223372036854775807 := by simp only [maxLen] at h63; omega
  have hlen : (xs ++ news).length = (n + m) * i.size := by rw [List.length_append, h.1, hl, Nat.add_mul]
  have hzc : ∀ k, ∀ c ∈ (Builtin.zeroCells z.cells k).toList, ok c := by
    intro k c hc
    have h2 := Array.mem_toList_iff.1 hc
    unfold Builtin.zeroCells at h2
    obtain ⟨j, hj, rfl⟩ := Array.mem_iff_getElem.1 h2
    simp only [Array.size_map, Array.size_range] at hj
    simp only [Array.getElem_map, Array.getElem_range]
    have hpos : 0 < z.cells.size := by
      rcases Nat.eq_zero_or_pos z.cells.size with h0 | h0
      · rw [h0, Nat.mul_zero] at hj; omega
      · exact h0
    have hlt : j % z.cells.size < z.cells.size := Nat.mod_lt _ hpos
    rw [getElem!_pos z.cells _ hlt]
    exact hok0 _ (Array.mem_toList_iff.2 (Array.getElem_mem hlt))
  have grown : ∀ (old : Nat), old < n + m → (∀ c ∈ xs, ok c) → ∀ (row : Option Nat),
      Gr ok (w.drew.alloc (.cells (xs.toArray ++ news.toArray ++ Builtin.zeroCells z.cells (grownCap w (n + m) old e - (n + m))) e)) base e i.size (.slice (some ⟨w.heap.size, 0, none⟩) (n + m) (grownCap w (n + m) old e)) (n + m) (xs ++ news) ∧
      w.grownBy (w.drew.alloc (.cells (xs.toArray ++ news.toArray ++ Builtin.zeroCells z.cells (grownCap w (n + m) old e - (n + m))) e)) row := by
    intro old ho hx row
    have hge := grownCap_ge w (n + m) old e
    refine ⟨⟨hlen, .inr ⟨w.heap.size, _, _, rfl, hbase, _root_.Go.heap_alloc_new w.drew _, hge, grownCap_le_maxLen w (n + m) old e h63, ?_, ?_, ?_⟩⟩, ⟨rfl, rfl, rfl, by simp, fun k hk _ => Go.RowKit.Below.heap_alloc w.drew _ k hk⟩⟩
    · simp only [Array.size_append, List.size_toArray, size_zeroCells, hzs, h.1, hl, ← Nat.add_mul]
      congr 1
      omega
    · simp only [Array.toList_append, List.append_assoc]
      rw [← List.append_assoc, ← hlen]
      exact List.take_left
    · intro c hc
      simp only [Array.toList_append, List.mem_append] at hc
      rcases hc with (hc | hc) | hc
      · exact hx c hc
      · exact hokn c hc
      · exact hzc _ c hc
  rcases h.2 with ⟨rfl, rfl⟩ | ⟨g, cap, cur, rfl, hbg, hg, hnc, hcm, hcs, htake, hok⟩
  · have hx : xs = [] := List.eq_nil_of_length_eq_zero (by simpa using h.1)
    subst hx
    have hr := run_append_nil (P := P) w t ty e i z ht hi hz a m c news hl hnews (by omega) (by omega) (by have hb := hbytes; simp only [Nat.zero_add] at hb; omega)
    have hgr := grown 0 (by omega) (fun _ h => by cases h) (Value.ownBlock (.slice none 0 0))
    simp only [Nat.zero_add, List.nil_append, Array.empty_append] at hgr ⊢
    exact ⟨_, _, hr, hgr.1, hgr.2⟩
  · have hxs : ∀ c ∈ xs, ok c := fun c hc => hok c (List.mem_of_mem_take (htake ▸ hc))
    by_cases hroom : n + m ≤ cap
    · have hfit : n * i.size + news.length ≤ cur.size := by rw [hl, hcs, ← Nat.add_mul]; exact Nat.mul_le_mul_right _ hroom
      have hr := run_append_room (P := P) w t ty e i ht hi g n cap cur hg a m c news hl hnews h1 hroom hfit
      refine ⟨_, _, hr, ⟨hlen, .inr ⟨g, cap, _, rfl, hbg, setRow_heap w g cur _ e _ hg, hroom, hcm, ?_, ?_, ?_⟩⟩, ⟨rfl, rfl, rfl, by simp, fun k _ hk => setRow_other w g k _ (fun e => hk (by simp [Value.ownBlock, e]))⟩⟩
      · simp only [List.size_toArray, List.length_append, List.length_take, List.length_drop, Array.length_toList]
        omega
      · rw [htake, ← hlen]
        exact List.take_left
      · intro c hc
        simp only [List.mem_append] at hc
        rcases hc with (hc | hc) | hc
        · exact hok c (List.mem_of_mem_take hc)
        · exact hokn c hc
        · exact hok c (List.mem_of_mem_drop hc)
    · have holds : ∀ j u, xs[j]? = some u → w.cell? ((⟨g, 0, none⟩ : Addr).add j) = some u := h.own.cells (g := g) rfl
      have hr := run_append_grow (P := P) w t ty e i z ht hi hz ⟨g, 0, none⟩ n cap xs h.1 holds a m c news hl hnews (by omega) (by omega) (growslice_fits (by omega) hbytes)
      have hgr := grown cap (by omega) hxs (Value.ownBlock (.slice (some ⟨g, 0, none⟩) n cap))
      exact ⟨_, _, hr, hgr.1, hgr.2⟩
end
end Go.Proofs.YtmioaeaobefphaaDoor.Pl
