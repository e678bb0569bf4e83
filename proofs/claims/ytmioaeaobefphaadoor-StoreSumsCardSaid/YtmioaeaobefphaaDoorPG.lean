/- Rows that grow: where they lie. -/
import Derived.Test.YtmioaeaobefphaaDoorPK
import Derived.Laws.EntriesVeiled
import Derived.Deep.AppendSrc
import Derived.Lib.AppendZeros
import Derived.Laws.IdiomStrings
import Derived.Laws.StructEq
namespace Go.Proofs.YtmioaeaobefphaaDoor.Pl
open Go Go.RowKit
set_option linter.unusedVariables false
set_option linter.unusedSimpArgs false

section
variable {P : Program} {ok : Value → Prop} {w w' : World} {base : Nat} {e : TypeId} {size : Nat} {v : Value} {n : Nat} {xs : List Value}
/-- More is appended, whatever it comes of. -/
theorem gr_src2 (t tx ty : TypeId) (i : TypeInfo) (z : Value) (bytes : Nat) (ht : P.underlying t = some (.slice e)) (hi : P.info? e = some i) (hz : i.zero = some z) (hsize : i.size = size) (hby : i.bytes = bytes) (hzs : z.cells.size = size)
    (hok0 : ∀ c ∈ z.cells.toList, ok c) (h : Gr ok w base e size v n xs) (x : Value) (m : Nat) (news : List Value) (hs : Src P size tx x m news w) (hokn : ∀ u ∈ news, ok u)
    (h63 : n + m ≤ maxLen) (hbytes : (n + m) * bytes ≤ 140737488355328) (hbase : base ≤ w.heap.size) :
    ∃ v' w', (Builtin.append_ #[t, tx] ty #[v, x]).run P w = .ok v' w' ∧ Gr ok w' base e size v' (n + m) (xs ++ news) ∧ w.grownBy w' v.ownBlock ∧ (∀ g, v'.ownBlock = some g → v.ownBlock = some g ∨ w.heap.size ≤ g) := by
  subst hsize
  subst hby
  have hsmall : n + m ≤ 9223372036854775807 := by simp only [maxLen] at h63; omega
  have hlen : (xs ++ news).length = (n + m) * i.size := by rw [List.length_append, h.1, hs.newsLen, Nat.add_mul]
  have hzc : ∀ k, ∀ c ∈ (Builtin.zeroCells z.cells k).toList, ok c := by
    intro k c hc
    have h2 := Array.mem_toList_iff.1 hc
    unfold Builtin.zeroCells at h2
    obtain ⟨j, hj, rfl⟩ := Array.mem_iff_getElem.1 h2
    simp only [Array.size_map, Array.size_range] at hj
    simp only [Array.getElem_map, Array.getElem_range]
    have hpos : 0 < z.cells.size := by
      rcases Nat.eq_zero_or_pos z.cells.size with h0 | h0
      · rw [h0, Nat.mul_zero] at hj; omega
      · exact h0
    have hlt : j % z.cells.size < z.cells.size := Nat.mod_lt _ hpos
    rw [getElem!_pos z.cells _ hlt]
    exact hok0 _ (Array.mem_toList_iff.2 (Array.getElem_mem hlt))
  have grown : ∀ (old : Nat), (∀ c ∈ xs, ok c) → ∀ (row : Option Nat),
      Gr ok (w.drew.alloc (.cells ((xs ++ news).toArray ++ Builtin.zeroCells z.cells (grownCap w (n + m) old e - (n + m))) e)) base e i.size (.slice (some ⟨w.heap.size, 0, none⟩) (n + m) (grownCap w (n + m) old e)) (n + m) (xs ++ news) ∧
      w.grownBy (w.drew.alloc (.cells ((xs ++ news).toArray ++ Builtin.zeroCells z.cells (grownCap w (n + m) old e - (n + m))) e)) row := by
    intro old hx row
    have hge := grownCap_ge w (n + m) old e
    refine ⟨⟨hlen, .inr ⟨w.heap.size, _, _, rfl, hbase, _root_.Go.heap_alloc_new w.drew _, hge, grownCap_le_maxLen w (n + m) old e h63, ?_, ?_, ?_⟩⟩, ⟨rfl, rfl, rfl, by simp, fun k hk _ => Go.RowKit.Below.heap_alloc w.drew _ k hk⟩⟩
    · rw [Array.size_append, List.size_toArray, size_zeroCells, hzs, hlen, ← Nat.add_mul]
      congr 1
      omega
    · simp only [Array.toList_append]
      rw [← hlen]
      exact List.take_left
    · intro c hc
      simp only [Array.toList_append, List.mem_append] at hc
      rcases hc with (hc | hc) | hc
      · exact hx c hc
      · exact hokn c hc
      · exact hzc _ c hc
  rcases h.2 with ⟨rfl, rfl⟩ | ⟨g, cap, cur, rfl, hbg, hg, hnc, hcm, hcs, htake, hok⟩
  · have hx : xs = [] := List.eq_nil_of_length_eq_zero (by simpa using h.1)
    subst hx
    rcases Nat.eq_zero_or_pos m with h0 | h0
    · subst h0
      have hn0 : news = [] := List.eq_nil_of_length_eq_zero (by rw [hs.newsLen, Nat.zero_mul])
      subst hn0
      have hr : (Builtin.append_ #[t, tx] ty #[.slice none 0 0, x]).run P w = .ok (.slice none 0 0) w := by
        rcases hs.kind with ⟨e', hk⟩ | hk <;> simp [Builtin.append_, run_underlying ht, run_underlying hk, sizeOf, typeInfo, hi, hs.len, hs.cells]
      exact ⟨_, _, hr, Gr.nil, World.grownBy.refl w _, fun g h => .inl h⟩
    · have hr := run_append_grow_src (P := P) w t tx ty e i z ht hi hz none 0 0 [] (by simp [Builtin.firstCells]) x m news hs (by omega) (by omega) (by rw [Nat.zero_add, nextslicecap_zero h0]; have hb := hbytes; rw [Nat.zero_add] at hb; omega)
      have hgr := grown 0 (fun _ h => by cases h) (Value.ownBlock (.slice none 0 0))
      exact ⟨_, _, hr, hgr.1, hgr.2, fun g h => .inr (by simp [Value.ownBlock] at h; omega)⟩
  · have hxs : ∀ c ∈ xs, ok c := fun c hc => hok c (List.mem_of_mem_take (htake ▸ hc))
    by_cases hroom : n + m ≤ cap
    · have hfit : n * i.size + news.length ≤ cur.size := by rw [hs.newsLen, hcs, ← Nat.add_mul]; exact Nat.mul_le_mul_right _ hroom
      have hst := run_storeCells_at P g (n * i.size) e news 0 cur w hg (by simpa using hfit) hs.one
      simp only [Nat.add_zero] at hst
      have hr : (Builtin.append_ #[t, tx] ty #[.slice (some ⟨g, 0, none⟩) n cap, x]).run P w = .ok (.slice (some ⟨g, 0, none⟩) (n + m) cap) (w.setRow g (cur.toList.take (n * i.size) ++ news ++ cur.toList.drop (n * i.size + news.length)).toArray) := by
        rcases hs.kind with ⟨e', hk⟩ | hk <;> simp [Builtin.append_, run_underlying ht, run_underlying hk, sizeOf, typeInfo, hi, hs.len, hroom, hs.cells, Addr.add_lit, hst]
      refine ⟨_, _, hr, ⟨hlen, .inr ⟨g, cap, _, rfl, hbg, setRow_heap w g cur _ e _ hg, hroom, hcm, ?_, ?_, ?_⟩⟩, ⟨rfl, rfl, rfl, by simp, fun k _ hk => setRow_other w g k _ (fun e => hk (by simp [Value.ownBlock, e]))⟩, fun g h => .inl h⟩
      · simp only [List.size_toArray, List.length_append, List.length_take, List.length_drop, Array.length_toList]
        omega
      · rw [htake, ← hlen]
        exact List.take_left
      · intro c hc
        simp only [List.mem_append] at hc
        rcases hc with (hc | hc) | hc
        · exact hok c (List.mem_of_mem_take hc)
        · exact hokn c hc
        · exact hok c (List.mem_of_mem_drop hc)
    · have holds : ∀ j u, xs[j]? = some u → w.drew.cell? ((⟨g, 0, none⟩ : Addr).add j) = some u := by simpa using h.own.cells (g := g) rfl
      have hr := run_append_grow_src (P := P) w t tx ty e i z ht hi hz (some ⟨g, 0, none⟩) n cap xs (run_firstCells_some w.drew i.size n ⟨g, 0, none⟩ n cap xs h.1 holds) x m news hs (by omega) (by omega) (growslice_fits (by omega) hbytes)
      have hgr := grown cap hxs (Value.ownBlock (.slice (some ⟨g, 0, none⟩) n cap))
      exact ⟨_, _, hr, hgr.1, hgr.2, fun g h => .inr (by simp [Value.ownBlock] at h; omega)⟩
end
section
variable {P : Program} {L : List Oper} {S : World → Prop} {K : List (Nat × Value) → World → Prop} {k : Bool} {i m d : Nat} {o : Oper} {x y : Operand} {r : List (Bool × Nat × Nat)} {l : List (Nat × Value)} {w w' : World} {v : Value}
/-- A row grows by what is appended. -/
theorem qA_gr2 {t tx e : TypeId} {ok : Value → Prop} {base size n m' bytes : Nat} {v u z : Value} {xs news : List Value} (hG : Gr ok w base e size v n xs) (hs : Src P size tx u m' news w) (hu : P.underlying t = some (.slice e)) (hinf : (P.info? e).map (fun i => (i.zero, i.size, i.bytes)) = some (some z, size, bytes)) (hzs : z.cells.size = size)
    (hok0 : ∀ c ∈ z.cells.toList, ok c) (hokn : ∀ c ∈ news, ok c) (h63 : n + m' ≤ 1000000000) (hby : bytes ≤ 1000) (hbase : base ≤ w.heap.size)
    (ho : nth L i = some o) (hop : o.op = .call { callee := .builtin .append, args := #[x, y], argTypes := #[t, tx] }) (hd : o.dst = some d) (hg : gd L l o.guard = some true) (hx : opv l x = some v) (hy : opv l y = some u) (hS : ∀ Y, w.grownBy Y v.ownBlock → S Y)
    (h : ∀ v' w', Gr ok w' base e size v' (n + m') (xs ++ news) → w.grownBy w' v.ownBlock → (∀ g, v'.ownBlock = some g → v.ownBlock = some g ∨ w.heap.size ≤ g) → wpA P L S K r ((d, v') :: l) w') : wpA P L S K ((false, i, m) :: r) l w := by
  obtain ⟨inf, hi, hz⟩ := Option.map_eq_some_iff.1 hinf
  simp only [Prod.mk.injEq] at hz
  obtain ⟨hz1, hz2, hz3⟩ := hz
  have hb : (n + m') * bytes ≤ 1000000000 * 1000 := Nat.mul_le_mul h63 hby
  obtain ⟨v', w2, hr, hG2, hg2, hg3⟩ := gr_src2 (P := P) t tx o.type inf z bytes hu hi hz1 hz2 hz3 hzs hok0 hG u m' news hs hokn (by unfold maxLen; omega) (by omega) hbase
  exact pA_val ho hd hg (fun ρ hρ => by
    obtain ⟨d', op', t', ps', af', gu'⟩ := o
    cases hop
    have e1 := hρ.opv hx
    have e2 := hρ.opv hy
    exact run_valW (Builtin.append_ _ _ (#[x, y].map ρ)) (by rw [show #[x, y].map ρ = #[v, u] from by simp [e1, e2]]; exact hr)) (hS _ hg2) (h _ _ hG2 hg2 hg3)
end
end Go.Proofs.YtmioaeaobefphaaDoor.Pl
