/- Memory: variables, slices that are read, rows that grow, what is kept. -/
import Derived.Test.YtmioaeaobefphaaDoorBac
import Derived.Laws.EntriesVeiled
import Derived.Deep.AppendSrc
import Derived.Lib.AppendZeros
import Derived.Laws.IdiomStrings
import Derived.Laws.StructEq

namespace Go.Proofs.YtmioaeaobefphaaDoor.Pl
open Go Go.RowKit
set_option linter.unusedVariables false
set_option linter.unusedSimpArgs false

/-! Memory: variables, slices that are read, rows that grow, what is kept. -/
/-- What lay before stays. -/
def Ex (a b : World) : Prop := Below a.heap.size a b
theorem Ex.refl (w : World) : Ex w w := Below.refl _ _
theorem Ex.trans {a b c : World} (h : Ex a b) (k : Ex b c) : Ex a c := Below.trans h (Below.mono k (Below.size h))
theorem Ex.size {a b : World} (h : Ex a b) : a.heap.size ≤ b.heap.size := Below.size h
theorem Ex.alloc (w : World) (x : Obj) : Ex w (w.alloc x) := Below.alloc (Below.refl _ w) (Nat.le_refl _) x
theorem Ex.drew (w : World) : Ex w w.drew := Below.drew (Below.refl _ w)
/-- All blocks but these stay. -/
structure Xs (Bs : List Nat) (w w' : World) : Prop where
  os : w'.os = w.os
  tape : w'.tape = w.tape
  output : w'.output = w.output
  size : w.heap.size ≤ w'.heap.size
  block : ∀ k, k < w.heap.size → k ∉ Bs → w'.heap[k]? = w.heap[k]?
theorem Xs.ex {Bs : List Nat} {w w' : World} (h : Ex w w') : Xs Bs w w' := ⟨h.os, h.tape, h.output, h.size, fun k hk _ => h.block k hk⟩
theorem Xs.trans {Bs : List Nat} {a b c : World} (h : Xs Bs a b) (k : Xs Bs b c) : Xs Bs a c :=
  ⟨k.os.trans h.os, k.tape.trans h.tape, k.output.trans h.output, Nat.le_trans h.size k.size, fun i hi hn => (k.block i (Nat.lt_of_lt_of_le hi h.size) hn).trans (h.block i hi hn)⟩
/-- Blocks made since need not be named. -/
theorem Xs.drop {Bs Cs : List Nat} {w w' : World} (h : Xs Bs w w') (hs : ∀ k ∈ Bs, k ∈ Cs ∨ w.heap.size ≤ k) : Xs Cs w w' := ⟨h.os, h.tape, h.output, h.size, fun k hk hn => h.block k hk fun hb => by
  rcases hs k hb with h1 | h1
  · exact hn h1
  · omega⟩
theorem Xs.toEx {Bs : List Nat} {w w' : World} (h : Xs Bs w w') (hs : ∀ k ∈ Bs, w.heap.size ≤ k) : Ex w w' := ⟨h.os, h.tape, h.output, h.size, fun k hk => h.block k hk fun hb => by have := hs k hb; omega⟩
/-- What lay before w0 stays though a younger block is written. -/
theorem Ex.xs {w0 w w' : World} {N : Nat} (h : Ex w0 w) (k : Xs [N] w w') (hN : w0.heap.size ≤ N) : Ex w0 w' :=
  ⟨k.os.trans h.os, k.tape.trans h.tape, k.output.trans h.output, Nat.le_trans h.size k.size, fun i hi => (k.block i (Nat.lt_of_lt_of_le hi h.size) (by simp; omega)).trans (h.block i hi)⟩
theorem Xs.of_grown {w w' : World} {g : Nat} (h : w.grownBy w' (some g)) : Xs [g] w w' := ⟨h.os, h.tape, h.output, h.size, fun k hk hn => h.block k hk (by simpa using hn)⟩
theorem Ex.grown {w0 w w' : World} {row : Option Nat} (h : Ex w0 w) (hg : w.grownBy w' row) (hr : ∀ k, row = some k → w0.heap.size ≤ k) : Ex w0 w' :=
  Below.grown h hg h.size hr

/-- A variable of its own of type T, with these cells. -/
def Cb (w : World) (N : Nat) (T : TypeId) (cs : List Value) : Prop := w.heap[N]? = some (.cells cs.toArray T (0, 0))
theorem Cb.lt {w : World} {N : Nat} {T : TypeId} {cs : List Value} (h : Cb w N T cs) : N < w.heap.size := (Array.getElem?_eq_some_iff.1 h).1
theorem Cb.ex {w w' : World} {N : Nat} {T : TypeId} {cs : List Value} (h : Cb w N T cs) (k : Ex w w') : Cb w' N T cs := (k.block N h.lt).trans h
theorem Cb.xs {w w' : World} {N : Nat} {T : TypeId} {cs : List Value} {Bs : List Nat} (h : Cb w N T cs) (k : Xs Bs w w') (hn : N ∉ Bs) : Cb w' N T cs := (k.block N h.lt hn).trans h
theorem Cb.new (w : World) (T : TypeId) (cs : List Value) : Cb (w.alloc (.cells cs.toArray T)) w.heap.size T cs := _root_.Go.heap_alloc_new w _
theorem Cb.at {w : World} {N : Nat} {T : TypeId} {cs : List Value} {v : Value} (h : Cb w N T cs) {j : Nat} (hj : cs[j]? = some v) : w.cell? ⟨N, j, none⟩ = some v := by
  rw [cell_of_row w N j cs.toArray T (0, 0) h]; simpa using hj
theorem Cb.frozen {w : World} {N : Nat} {T : TypeId} {cs : List Value} (h : Cb w N T cs) (j : Nat) : w.frozen? ⟨N, j, none⟩ = false := by unfold Cb at h; simp [World.frozen?, h]
theorem Cb.put {w : World} {N : Nat} {T : TypeId} {cs : List Value} (h : Cb w N T cs) (new : List Value) : Cb (w.setRow N new.toArray) N T new := setRow_heap w N _ _ T _ h
theorem Xs.put (w : World) (N : Nat) (new : Array Value) : Xs [N] w (w.setRow N new) := ⟨by simp, by simp, by simp, by simp, fun k _ hn => setRow_other w N k new (by simpa using hn)⟩
section
variable {P : Program}
theorem Cb.load {w : World} {N : Nat} {T : TypeId} {cs : List Value} (h : Cb w N T cs) {o : Nat} {part : List Value} (hp : (cs.drop o).take part.length = part) {ty : TypeId} {d : TypeDesc} (hu : P.underlying ty = some d) (hd : d.isRow = true) (hi : (P.info? ty).map (·.size) = some part.length) :
    (Instr.loadAt ty (.pointer (some ⟨N, o, none⟩))).run P w = .ok (.agg part.toArray) w :=
  run_loadAt_mid w N o ty part d (by
    have := World.rangeAt_of_block h o part.length
    have e : (cs.toArray.extract o (o + part.length)).toList = part := by
      rw [Array.toList_extract, List.extract_eq_take_drop, Nat.add_sub_cancel_left]; exact hp
    rwa [e] at this) hu hd hi
theorem Cb.store {w : World} {N : Nat} {T : TypeId} {cs : List Value} (h : Cb w N T cs) {ty : TypeId} {new : List Value} (hi : (P.info? ty).map (·.size) = some new.length) (hl : cs.length = new.length) (h1 : ∀ v ∈ new, v.oneCell' = true) :
    (Instr.storeAt ty (.pointer (some ⟨N, 0, none⟩)) (.agg new.toArray)).run P w = .ok () (w.setRow N new.toArray) := by
  simp only [Instr.storeAt, Instr.sureAddr, Sem.run_bind, Sem.run_pure, Result.andThen_ok]
  exact run_storeVar_row w N T ty cs.toArray new.toArray h (by simpa using hi) (by simpa using hl) (all_oneCell_toArray h1)
/-- One cell of it is written. -/
theorem run_st {w : World} {ty : TypeId} {a : Addr} {v old : Value} (hi : (P.info? ty).map (·.size) = some 1) (h1 : v.oneCell' = true) (hv : v.cells = #[v]) (hc : w.cell? a = some old) (hf : w.frozen? a = false) :
    (Instr.storeAt ty (.pointer (some a)) v).run P w = .ok () (w.setCell a v) := by
  obtain ⟨inf, hi0, hz⟩ := Option.map_eq_some_iff.1 hi
  have e : a.add 0 = a := by simp [Addr.add]
  simp [Instr.storeAt, Instr.sureAddr, storeVar, sizeOf, typeInfo, hi0, hz, hv, storeCells, Result.andThen, run_store P w _ v _ h1, e, hc, hf]
end
theorem Cb.set {w : World} {N : Nat} {T : TypeId} {cs : List Value} (h : Cb w N T cs) (j : Nat) (v : Value) : Cb (w.setCell ⟨N, j, none⟩ v) N T (cs.set j v) := by
  have := heap_setCell_same w N j _ _ v h
  unfold Cb
  rw [this, List.setIfInBounds_toArray]
theorem Xs.set (w : World) (N j : Nat) (v : Value) : Xs [N] w (w.setCell ⟨N, j, none⟩ v) := ⟨by simp [World.setCell], by simp [World.setCell], by simp [World.setCell], by simp [World.setCell], fun k _ hn => Below.heap_setCell w ⟨N, j, none⟩ v k (by simpa using hn)⟩

/-- A slice of n elements whose cells are xs; it lies nowhere below block lo. -/
def Sl (w : World) (lo : Nat) (v : Value) (n : Nat) (xs : List Value) : Prop := ∃ A c, v = .slice A n c ∧ n ≤ c ∧ c ≤ 9223372036854775807 ∧
  (0 < xs.length → ∃ ad, A = some ad ∧ lo ≤ ad.block ∧ ad.block < w.heap.size ∧ ∀ j u, xs[j]? = some u → w.cell? (ad.add j) = some u)
theorem Sl.sh {w : World} {lo n : Nat} {v : Value} {xs : List Value} (h : Sl w lo v n xs) : ∃ A c, v = .slice A n c ∧ n ≤ c ∧ c ≤ 9223372036854775807 := by
  obtain ⟨A, c, h1, h2, h3, _⟩ := h; exact ⟨A, c, h1, h2, h3⟩
theorem Sl.xs {w w' : World} {lo n : Nat} {v : Value} {xs : List Value} {Bs : List Nat} (h : Sl w lo v n xs) (k : Xs Bs w w') (hB : ∀ b ∈ Bs, b < lo ∨ w.heap.size ≤ b) : Sl w' lo v n xs := by
  obtain ⟨A, c, h1, h2, h3, h4⟩ := h
  refine ⟨A, c, h1, h2, h3, fun h0 => ?_⟩
  obtain ⟨ad, e, hl, hb, hc⟩ := h4 h0
  refine ⟨ad, e, hl, Nat.lt_of_lt_of_le hb k.size, fun j u hj => ?_⟩
  rw [← hc j u hj]
  refine World.cell?_of_block (k.block _ (by rw [addr_blk]; exact hb) ?_)
  intro hm
  rw [addr_blk] at hm
  rcases hB _ hm with h5 | h5 <;> omega
where addr_blk {a : Addr} {j : Nat} : (a.add j).block = a.block := by unfold Addr.add; split <;> rfl
theorem Sl.ex {w w' : World} {lo n : Nat} {v : Value} {xs : List Value} (h : Sl w lo v n xs) (k : Ex w w') : Sl w' lo v n xs := Sl.xs (Bs := []) h (Xs.ex k) (by simp)
theorem Sl.mono {w : World} {lo lo' n : Nat} {v : Value} {xs : List Value} (h : Sl w lo v n xs) (hl : lo' ≤ lo) : Sl w lo' v n xs := by
  obtain ⟨A, c, h1, h2, h3, h4⟩ := h
  exact ⟨A, c, h1, h2, h3, fun h0 => by obtain ⟨ad, e, hl', hb, hc⟩ := h4 h0; exact ⟨ad, e, Nat.le_trans hl hl', hb, hc⟩⟩
theorem Sl.nil (w : World) (lo : Nat) : Sl w lo (.slice none 0 0) 0 [] := ⟨none, 0, rfl, Nat.le_refl _, by omega, fun h => absurd h (by simp)⟩
/-- A place of it. -/
theorem Sl.at {w : World} {lo n c : Nat} {A : Option Addr} {xs : List Value} (h : Sl w lo (.slice A n c) n xs) {j : Nat} {u : Value} (hj : xs[j]? = some u) : ∃ ad, A = some ad ∧ w.cell? (ad.add j) = some u := by
  obtain ⟨A', c', h1, h2, h3, h4⟩ := h
  cases h1
  obtain ⟨ad, e, _, _, hc⟩ := h4 (by have := (List.getElem?_eq_some_iff.1 hj).1; omega)
  exact ⟨ad, e, hc j u hj⟩
/-- A part of it. -/
theorem Sl.cut {w : World} {lo n c s : Nat} {A : Option Addr} {xs : List Value} (h : Sl w lo (.slice A n c) n xs) (hx : xs.length = n * s) {l k : Nat} (h1 : l ≤ k) (h2 : k ≤ n) :
    Sl w lo (cutA A l k c s) (k - l) ((xs.drop (l * s)).take ((k - l) * s)) := by
  obtain ⟨A', c', he, hn, hc, h4⟩ := h
  cases he
  refine ⟨_, _, rfl, by omega, by omega, fun h0 => ?_⟩
  have hlen : ((xs.drop (l * s)).take ((k - l) * s)).length ≤ (k - l) * s := by rw [List.length_take]; exact Nat.min_le_left _ _
  have hkl : l < k := by
    rcases Nat.lt_or_ge l k with h | h
    · exact h
    · have hz : (k - l) * s = 0 := by rw [show k - l = 0 by omega, Nat.zero_mul]
      omega
  have hpos : 0 < xs.length := by rw [List.length_take, List.length_drop] at h0; omega
  obtain ⟨ad, rfl, hl, hb, hcell⟩ := h4 hpos
  have hne : c ≠ l := by omega
  rw [if_neg hne]
  refine ⟨ad.add (l * s), rfl, by rw [Sl.xs.addr_blk]; exact hl, by rw [Sl.xs.addr_blk]; exact hb, fun j u hj => ?_⟩
  have e : (ad.add (l * s)).add j = ad.add (l * s + j) := by
    unfold Addr.add
    by_cases hi : l * s = 0 <;> by_cases hj : j = 0 <;> simp [hi, hj, Nat.add_assoc]
  rw [e]
  refine hcell _ u ?_
  rw [List.getElem?_take] at hj
  split at hj
  · rwa [List.getElem?_drop] at hj
  · cases hj
theorem Sl.ofCb {w : World} {N n s : Nat} {T : TypeId} {cs : List Value} (h : Cb w N T cs) (hm : n ≤ 9223372036854775807) : Sl w N (.slice (some ⟨N, 0, none⟩) n n) n cs :=
  ⟨_, n, rfl, Nat.le_refl _, hm, fun _ => ⟨_, rfl, Nat.le_refl _, h.lt, fun j u hj => by rw [Addr.add_mid, Nat.zero_add]; exact h.at hj⟩⟩
section
variable {P : Program} {ok : Value → Prop} {w w' : World} {base : Nat} {e : TypeId} {size : Nat} {v : Value} {n : Nat} {xs : List Value}
theorem Gr.sl (h : Gr ok w base e size v n xs) (hm : n ≤ 9223372036854775807) : Sl w base v n xs := by
  rcases h.2 with ⟨rfl, rfl⟩ | ⟨g, cap, cur, rfl, hb, hgg, hnc, hcm, hcs, htake, hok⟩
  · refine ⟨none, 0, rfl, Nat.le_refl _, by omega, fun h0 => ?_⟩
    have := h.1; omega
  · refine ⟨_, cap, rfl, hnc, by unfold maxLen at hcm; omega, fun h0 => ⟨_, rfl, hb, (Array.getElem?_eq_some_iff.1 hgg).1, fun j u hj => h.own.cells (g := g) rfl j u hj⟩⟩
theorem Gr.keep {Bs : List Nat} (h : Gr ok w base e size v n xs) (k : Xs Bs w w') (hn : ∀ g, v.ownBlock = some g → g ∉ Bs) : Gr ok w' base e size v n xs := by
  refine ⟨h.1, ?_⟩
  rcases h.2 with hn | ⟨g, cap, cur, rfl, hb, hgg, rest⟩
  · exact .inl hn
  · refine .inr ⟨g, cap, cur, rfl, hb, ?_, rest⟩
    rw [k.block g (Array.getElem?_eq_some_iff.1 hgg).1 (hn g rfl)]
    exact hgg
theorem Gr.ex (h : Gr ok w base e size v n xs) (k : Ex w w') : Gr ok w' base e size v n xs := Gr.keep (Bs := []) h (Xs.ex k) (by simp)
/-- Where it lies. -/
theorem Gr.lies (h : Gr ok w base e size v n xs) : ∀ g, v.ownBlock = some g → base ≤ g ∧ g < w.heap.size := by
  intro g hg
  rcases h.2 with ⟨rfl, _⟩ | ⟨g', cap, cur, rfl, hb, hgg, _⟩
  · simp [Value.ownBlock] at hg
  · simp [Value.ownBlock] at hg
    subst hg
    exact ⟨hb, (Array.getElem?_eq_some_iff.1 hgg).1⟩
theorem Gr.shp (h : Gr ok w base e size v n xs) : ∃ A c, v = .slice A n c ∧ n ≤ c := by
  rcases h.2 with ⟨rfl, rfl⟩ | ⟨g, cap, cur, rfl, _, _, hn, _⟩
  · exact ⟨_, _, rfl, Nat.le_refl _⟩
  · exact ⟨_, _, rfl, hn⟩
/-- More is appended, whatever it comes of. -/
theorem gr_src (t tx ty : TypeId) (i : TypeInfo) (z : Value) (bytes : Nat) (ht : P.underlying t = some (.slice e)) (hi : P.info? e = some i) (hz : i.zero = some z) (hsize : i.size = size) (hby : i.bytes = bytes) (hzs : z.cells.size = size)
    (hok0 : ∀ c ∈ z.cells.toList, ok c) (h : Gr ok w base e size v n xs) (x : Value) (m : Nat) (news : List Value) (hs : Src P size tx x m news w) (hokn : ∀ u ∈ news, ok u)
    (h63 : n + m ≤ maxLen) (hbytes : (n + m) * bytes ≤ 140737488355328) (hbase : base ≤ w.heap.size) :
    ∃ v' w', (Builtin.append_ #[t, tx] ty #[v, x]).run P w = .ok v' w' ∧ Gr ok w' base e size v' (n + m) (xs ++ news) ∧ w.grownBy w' v.ownBlock := by
  subst hsize
  subst hby
  have hsmall : n + m ≤ 9223372036854775807 := by simp only [maxLen] at h63; omega
  have hlen : (xs ++ news).length = (n + m) * i.size := by rw [List.length_append, h.1, hs.newsLen, Nat.add_mul]
  have hzc : ∀ k, ∀ c ∈ (Builtin.zeroCells z.cells k).toList, ok c := by
    intro k c hc
    have h2 := Array.mem_toList_iff.1 hc
    unfold Builtin.zeroCells at h2
    obtain ⟨j, hj, rfl⟩ := Array.mem_iff_getElem.1 h2
    simp only [Array.size_map, Array.size_range] at hj
    simp only [Array.getElem_map, Array.getElem_range]
    have hpos : 0 < z.cells.size := by
      rcases Nat.eq_zero_or_pos z.cells.size with h0 | h0
      · rw [h0, Nat.mul_zero] at hj; omega
      · exact h0
    have hlt : j % z.cells.size < z.cells.size := Nat.mod_lt _ hpos
    rw [getElem!_pos z.cells _ hlt]
    exact hok0 _ (Array.mem_toList_iff.2 (Array.getElem_mem hlt))
  have grown : ∀ (old : Nat), (∀ c ∈ xs, ok c) → ∀ (row : Option Nat),
      Gr ok (w.drew.alloc (.cells ((xs ++ news).toArray ++ Builtin.zeroCells z.cells (grownCap w (n + m) old e - (n + m))) e)) base e i.size (.slice (some ⟨w.heap.size, 0, none⟩) (n + m) (grownCap w (n + m) old e)) (n + m) (xs ++ news) ∧
      w.grownBy (w.drew.alloc (.cells ((xs ++ news).toArray ++ Builtin.zeroCells z.cells (grownCap w (n + m) old e - (n + m))) e)) row := by
    intro old hx row
    have hge := grownCap_ge w (n + m) old e
    refine ⟨⟨hlen, .inr ⟨w.heap.size, _, _, rfl, hbase, _root_.Go.heap_alloc_new w.drew _, hge, grownCap_le_maxLen w (n + m) old e h63, ?_, ?_, ?_⟩⟩, ⟨rfl, rfl, rfl, by simp, fun k hk _ => Go.RowKit.Below.heap_alloc w.drew _ k hk⟩⟩
    · rw [Array.size_append, List.size_toArray, size_zeroCells, hzs, hlen, ← Nat.add_mul]
      congr 1
      omega
    · simp only [Array.toList_append]
      rw [← hlen]
      exact List.take_left
    · intro c hc
      simp only [Array.toList_append, List.mem_append] at hc
      rcases hc with (hc | hc) | hc
      · exact hx c hc
      · exact hokn c hc
      · exact hzc _ c hc
  rcases h.2 with ⟨rfl, rfl⟩ | ⟨g, cap, cur, rfl, hbg, hg, hnc, hcm, hcs, htake, hok⟩
  · have hx : xs = [] := List.eq_nil_of_length_eq_zero (by simpa using h.1)
    subst hx
    rcases Nat.eq_zero_or_pos m with h0 | h0
    · subst h0
      have hn0 : news = [] := List.eq_nil_of_length_eq_zero (by rw [hs.newsLen, Nat.zero_mul])
      subst hn0
      have hr : (Builtin.append_ #[t, tx] ty #[.slice none 0 0, x]).run P w = .ok (.slice none 0 0) w := by
        rcases hs.kind with ⟨e', hk⟩ | hk <;> simp [Builtin.append_, run_underlying ht, run_underlying hk, sizeOf, typeInfo, hi, hs.len, hs.cells]
      exact ⟨_, _, hr, Gr.nil, World.grownBy.refl w _⟩
    · have hr := run_append_grow_src (P := P) w t tx ty e i z ht hi hz none 0 0 [] (by simp [Builtin.firstCells]) x m news hs (by omega) (by omega) (by rw [Nat.zero_add, nextslicecap_zero h0]; have hb := hbytes; rw [Nat.zero_add] at hb; omega)
      have hgr := grown 0 (fun _ h => by cases h) (Value.ownBlock (.slice none 0 0))
      exact ⟨_, _, hr, hgr.1, hgr.2⟩
  · have hxs : ∀ c ∈ xs, ok c := fun c hc => hok c (List.mem_of_mem_take (htake ▸ hc))
    by_cases hroom : n + m ≤ cap
    · have hfit : n * i.size + news.length ≤ cur.size := by rw [hs.newsLen, hcs, ← Nat.add_mul]; exact Nat.mul_le_mul_right _ hroom
      have hst := run_storeCells_at P g (n * i.size) e news 0 cur w hg (by simpa using hfit) hs.one
      simp only [Nat.add_zero] at hst
      have hr : (Builtin.append_ #[t, tx] ty #[.slice (some ⟨g, 0, none⟩) n cap, x]).run P w = .ok (.slice (some ⟨g, 0, none⟩) (n + m) cap) (w.setRow g (cur.toList.take (n * i.size) ++ news ++ cur.toList.drop (n * i.size + news.length)).toArray) := by
        rcases hs.kind with ⟨e', hk⟩ | hk <;> simp [Builtin.append_, run_underlying ht, run_underlying hk, sizeOf, typeInfo, hi, hs.len, hroom, hs.cells, Addr.add_lit, hst]
      refine ⟨_, _, hr, ⟨hlen, .inr ⟨g, cap, _, rfl, hbg, setRow_heap w g cur _ e _ hg, hroom, hcm, ?_, ?_, ?_⟩⟩, ⟨rfl, rfl, rfl, by simp, fun k _ hk => setRow_other w g k _ (fun e => hk (by simp [Value.ownBlock, e]))⟩⟩
      · simp only [List.size_toArray, List.length_append, List.length_take, List.length_drop, Array.length_toList]
        omega
      · rw [htake, ← hlen]
        exact List.take_left
      · intro c hc
        simp only [List.mem_append] at hc
        rcases hc with (hc | hc) | hc
        · exact hok c (List.mem_of_mem_take hc)
        · exact hokn c hc
        · exact hok c (List.mem_of_mem_drop hc)
    · have holds : ∀ j u, xs[j]? = some u → w.drew.cell? ((⟨g, 0, none⟩ : Addr).add j) = some u := by simpa using h.own.cells (g := g) rfl
      have hr := run_append_grow_src (P := P) w t tx ty e i z ht hi hz (some ⟨g, 0, none⟩) n cap xs (run_firstCells_some w.drew i.size n ⟨g, 0, none⟩ n cap xs h.1 holds) x m news hs (by omega) (by omega) (growslice_fits (by omega) hbytes)
      have hgr := grown cap hxs (Value.ownBlock (.slice (some ⟨g, 0, none⟩) n cap))
      exact ⟨_, _, hr, hgr.1, hgr.2⟩
/-- What a slice that is read hands to an append. -/
theorem Sl.src {lo m : Nat} {u : Value} {ys : List Value} {tx e' : TypeId} (h : Sl w lo u m ys) (hl : ys.length = m * size) (hk : P.underlying tx = some (.slice e')) (h1 : ∀ c ∈ ys, c.oneCell' = true) (h0 : 0 < size) : Src P size tx u m ys w := by
  obtain ⟨A, c, rfl, h2, h3, h4⟩ := h
  rcases Nat.eq_zero_or_pos ys.length with hy | hy
  · have hm : m = 0 := by
      rcases Nat.eq_zero_or_pos m with h | h
      · exact h
      · have := Nat.mul_pos h h0; omega
    subst hm
    obtain rfl := List.eq_nil_of_length_eq_zero hy
    cases A with
    | none => exact Src.ofNil w hk c
    | some ad => exact Src.ofSlice w hk ad 0 c [] (by simp) (fun j u hj => by simp at hj) (fun u hu => by cases hu)
  · obtain ⟨ad, rfl, _, _, hc⟩ := h4 hy
    exact Src.ofSlice w hk ad m c ys hl hc h1
end
section
variable {P : Program} {L : List Oper} {S : World → Prop} {K : List (Nat × Value) → World → Prop} {k : Bool} {i m d : Nat} {o : Oper} {x y : Operand} {r : List (Bool × Nat × Nat)} {l : List (Nat × Value)} {w w' : World} {v : Value}
/-- A variable is made: its cells are the type's zero value. -/
theorem qA_al {T : TypeId} {z : Value} (hz : (P.info? T).map (fun i => i.zero) = some (some z)) (ho : nth L i = some o) (hp : o.op = .alloc T) (hd : o.dst = some d) (hg : gd L l o.guard = some true) (hS : ∀ Y, Ex w Y → S Y)
    (h : ∀ N w', Ex w w' → N = w.heap.size → Cb w' N T z.cells.toList → wpA P L S K r ((d, .pointer (some ⟨N, 0, none⟩)) :: l) w') : wpA P L S K ((false, i, m) :: r) l w := by
  have e1 := Ex.alloc w (.cells z.cells T)
  have h0 : (zeroValue T).run P w = .ok z w := by
    cases hq : P.info? T with
    | none => simp [hq] at hz
    | some i => simp [hq] at hz; simp [zeroValue, typeInfo, hq, hz]
  refine qA_alloc ho hp hd hg (w' := w.alloc (.cells z.cells T)) (by simp [Instr.alloc, Sem.run_bind, h0, newVar, newRow]) (hS _ e1) (h _ _ e1 rfl ?_)
  have := Cb.new w T z.cells.toList
  simpa using this
/-- A variable is made of a value. -/
theorem qA_bx {T : TypeId} {u : Value} {cs : List Value} (ho : nth L i = some o) (hp : o.op = .box T x) (hd : o.dst = some d) (hg : gd L l o.guard = some true) (hx : opv l x = some u) (hc : u.cells = cs.toArray) (hS : ∀ Y, Ex w Y → S Y)
    (h : ∀ N w', Ex w w' → N = w.heap.size → Cb w' N T cs → wpA P L S K r ((d, .pointer (some ⟨N, 0, none⟩)) :: l) w') : wpA P L S K ((false, i, m) :: r) l w := by
  have e1 := Ex.alloc w (.cells cs.toArray T)
  refine pA_val (w' := w.alloc (.cells cs.toArray T)) (v := .pointer (some ⟨w.heap.size, 0, none⟩)) ho hd hg (fun ρ hρ => ?_) (hS _ e1) (h _ _ e1 rfl (Cb.new w T cs))
  unfold execOp; rw [hp]
  refine run_valW _ ?_
  rw [hρ.opv hx]
  simp [Instr.box, Sem.run_bind, newVar, newRow, hc]
/-- A slice is made of values. -/
theorem qA_bs {e : TypeId} {n : Nat} (cs : List Value) (ho : nth L i = some o) (hd : o.dst = some d) (hg : gd L l o.guard = some true) (hk : known l o.op = true)
    (he : (execOp (rho l) o).run P w = .ok (.value (.slice (some ⟨w.heap.size, 0, none⟩) n n)) (w.alloc (.cells cs.toArray e))) (hS : ∀ Y, Ex w Y → S Y)
    (h : ∀ N w', Ex w w' → N = w.heap.size → Cb w' N e cs → wpA P L S K r ((d, .slice (some ⟨N, 0, none⟩) n n) :: l) w') : wpA P L S K ((false, i, m) :: r) l w :=
  qA_evW _ _ ho hd hg hk he (hS _ (Ex.alloc w _)) (h _ _ (Ex.alloc w _) rfl (Cb.new w e cs))
/-- It is written whole. -/
theorem qA_sw {N : Nat} {T ty : TypeId} {cs new : List Value} (hC : Cb w N T cs) (hi : (P.info? ty).map (·.size) = some new.length) (hl : cs.length = new.length) (h1 : ∀ v ∈ new, v.oneCell' = true) (ho : nth L i = some o) (hp : o.op = .store ty x y) (hd : o.dst = none) (hg : gd L l o.guard = some true) (hx : opv l x = some (.pointer (some ⟨N, 0, none⟩))) (hy : opv l y = some (.agg new.toArray))
    (hS : ∀ Y, Xs [N] w Y → S Y) (h : ∀ w', Xs [N] w w' → Cb w' N T new → wpA P L S K r l w') : wpA P L S K ((false, i, m) :: r) l w :=
  qA_store ho hp hd hg hx hy (hC.store hi hl h1) (hS _ (Xs.put w N _)) (h _ (Xs.put w N _) (hC.put new))
/-- One cell of it. -/
theorem qA_s1 {N j : Nat} {T ty : TypeId} {cs : List Value} {u : Value} (hC : Cb w N T cs) (hj : j < cs.length) (hi : (P.info? ty).map (·.size) = some 1) (h1 : u.oneCell' = true) (hv : u.cells = #[u]) (ho : nth L i = some o) (hp : o.op = .store ty x y) (hd : o.dst = none) (hg : gd L l o.guard = some true) (hx : opv l x = some (.pointer (some ⟨N, j, none⟩))) (hy : opv l y = some u)
    (hS : ∀ Y, Xs [N] w Y → S Y) (h : ∀ w', Xs [N] w w' → Cb w' N T (cs.set j u) → wpA P L S K r l w') : wpA P L S K ((false, i, m) :: r) l w :=
  qA_store ho hp hd hg hx hy (run_st hi h1 hv (hC.at (List.getElem?_eq_getElem hj)) (hC.frozen j)) (hS _ (Xs.set w N j u)) (h _ (Xs.set w N j u) (hC.set j u))
/-- A part of it is loaded. -/
theorem qA_lr {N q : Nat} {T ty : TypeId} {dd : TypeDesc} {cs part : List Value} (hC : ∀ X, S X → Cb X N T cs) (hp' : (cs.drop q).take part.length = part) (hu : P.underlying ty = some dd) (hdd : dd.isRow = true) (hi : (P.info? ty).map (·.size) = some part.length) (hS : S w) (ho : nth L i = some o) (hp : o.op = .load ty x) (hd : o.dst = some d) (hg : gd L l o.guard = some true) (hx : opv l x = some (.pointer (some ⟨N, q, none⟩)))
    (h : wpA P L S K r ((d, .agg part.toArray) :: l) w) : wpA P L S K ((k, i, m) :: r) l w := qA_load hS ho hp hd hg hx (fun X hX => (hC X hX).load hp' hu hdd hi) h
theorem qA_lrw {N q : Nat} {T ty : TypeId} {dd : TypeDesc} {cs part : List Value} (hC : Cb w N T cs) (hp' : (cs.drop q).take part.length = part) (hu : P.underlying ty = some dd) (hdd : dd.isRow = true) (hi : (P.info? ty).map (·.size) = some part.length) (hS : S w) (ho : nth L i = some o) (hp : o.op = .load ty x) (hd : o.dst = some d) (hg : gd L l o.guard = some true) (hx : opv l x = some (.pointer (some ⟨N, q, none⟩)))
    (h : wpA P L S K r ((d, .agg part.toArray) :: l) w) : wpA P L S K ((false, i, m) :: r) l w := qA_loadw hS ho hp hd hg hx (hC.load hp' hu hdd hi) h
/-- A row grows by what is appended. -/
theorem qA_gr {t tx e : TypeId} {ok : Value → Prop} {base size n m' bytes : Nat} {v u z : Value} {xs news : List Value} (hG : Gr ok w base e size v n xs) (hs : Src P size tx u m' news w) (hu : P.underlying t = some (.slice e)) (hinf : (P.info? e).map (fun i => (i.zero, i.size, i.bytes)) = some (some z, size, bytes)) (hzs : z.cells.size = size)
    (hok0 : ∀ c ∈ z.cells.toList, ok c) (hokn : ∀ c ∈ news, ok c) (h63 : n + m' ≤ 1000000000) (hby : bytes ≤ 1000) (hbase : base ≤ w.heap.size)
    (ho : nth L i = some o) (hop : o.op = .call { callee := .builtin .append, args := #[x, y], argTypes := #[t, tx] }) (hd : o.dst = some d) (hg : gd L l o.guard = some true) (hx : opv l x = some v) (hy : opv l y = some u) (hS : ∀ Y, w.grownBy Y v.ownBlock → S Y)
    (h : ∀ v' w', Gr ok w' base e size v' (n + m') (xs ++ news) → w.grownBy w' v.ownBlock → wpA P L S K r ((d, v') :: l) w') : wpA P L S K ((false, i, m) :: r) l w := by
  obtain ⟨inf, hi, hz⟩ := Option.map_eq_some_iff.1 hinf
  simp only [Prod.mk.injEq] at hz
  obtain ⟨hz1, hz2, hz3⟩ := hz
  have hb : (n + m') * bytes ≤ 1000000000 * 1000 := Nat.mul_le_mul h63 hby
  obtain ⟨v', w2, hr, hG2, hg2⟩ := gr_src (P := P) t tx o.type inf z bytes hu hi hz1 hz2 hz3 hzs hok0 hG u m' news hs hokn (by unfold maxLen; omega) (by omega) hbase
  exact pA_val ho hd hg (fun ρ hρ => by
    obtain ⟨d', op', t', ps', af', gu'⟩ := o
    cases hop
    have e1 := hρ.opv hx
    have e2 := hρ.opv hy
    exact run_valW (Builtin.append_ _ _ (#[x, y].map ρ)) (by rw [show #[x, y].map ρ = #[v, u] from by simp [e1, e2]]; exact hr)) (hS _ hg2) (h _ _ hG2 hg2)
end
end Go.Proofs.YtmioaeaobefphaaDoor.Pl
