/- Slices of 32-bit numbers: read, made by the call itself, appended to. -/
import Derived.Below
import Derived.Laws.OwnMore
import Derived.Laws.AppendOwn
import Derived.Laws.BitsAllLaws
import Derived.Laws.Bits64
import Derived.Deep.AppendLies
import Derived.Deep.Draws
import Derived.Lib.Hide
import Derived.OwnWalk
import Derived.Test.YtfkcdmbiihkiiaaGreatDoorProg
import Derived.WalkKit
import Derived.ProofKit
import Derived.OpenShut
import Derived.JoinedCond
import Derived.RegionTactic
import Derived.LoopTactic
import Derived.BigQuiet
import Derived.Deep.QuietTactic
import Derived.Outline

namespace Go.Proofs.YtfkcdmbiihkiiaaGreatDoor
open Go.RowKit
set_option linter.unusedVariables false

/-- The j-th number, 0 beyond. -/
def lb (xs : List Nat) (j : Nat) : Nat := xs[j]?.getD 0
theorem lb_lt_of {xs : List Nat} {p : Nat} (hp : 0 < p) (h : ∀ x ∈ xs, x < p) (j : Nat) : lb xs j < p := by
  unfold lb
  by_cases hj : j < xs.length
  · rw [List.getElem?_eq_getElem hj]; exact h _ (List.getElem_mem hj)
  · rw [List.getElem?_eq_none (by omega)]; exact hp
theorem lb_lt {xs : List Nat} (h : ∀ x ∈ xs, x < 4294967296) (j : Nat) : lb xs j < 4294967296 := lb_lt_of (by decide) h j
theorem ext_lb {xs ys : List Nat} (hl : xs.length = ys.length) (h : ∀ j, j < xs.length → lb xs j = lb ys j) : xs = ys := by
  apply List.ext_getElem hl
  intro i h1 h2
  have := h i h1
  unfold lb at this
  rwa [List.getElem?_eq_getElem h1, List.getElem?_eq_getElem h2] at this
theorem lb_take {xs : List Nat} {k j : Nat} (h : j < k) : lb (xs.take k) j = lb xs j := by
  unfold lb; rw [List.getElem?_take, if_pos h]
theorem lb_drop (xs : List Nat) (q i : Nat) : lb (xs.drop q) i = lb xs (q + i) := by unfold lb; rw [List.getElem?_drop]
theorem lb_set_same {o : List Nat} {j : Nat} (x : Nat) (h : j < o.length) : lb (o.set j x) j = x := by simp [lb, h]
theorem lb_set_other {o : List Nat} {i j : Nat} (x : Nat) (h : i ≠ j) : lb (o.set i x) j = lb o j := by simp [lb, h]
theorem lb_set (o : List Nat) (i j x : Nat) (h : i < o.length) : lb (o.set i x) j = if i = j then x else lb o j := by
  by_cases e : i = j
  · subst e; rw [if_pos rfl, lb_set_same x h]
  · rw [if_neg e, lb_set_other x e]
theorem lb_zeros (n j : Nat) : lb (List.replicate n 0) j = 0 := by
  unfold lb; by_cases h : j < n <;> simp [h]
theorem lb_out {o : List Nat} {j : Nat} (h : o.length ≤ j) : lb o j = 0 := by simp [lb, List.getElem?_eq_none h]
theorem lb_append (o u : List Nat) (j : Nat) : lb (o ++ u) j = if j < o.length then lb o j else lb u (j - o.length) := by
  unfold lb; rw [List.getElem?_append]; split <;> rfl
theorem set_lt {o : List Nat} {j x b : Nat} (h : ∀ y ∈ o, y < b) (hx : x < b) : ∀ y ∈ o.set j x, y < b := by
  intro y hy
  rcases List.mem_or_eq_of_mem_set hy with h1 | h1
  · exact h y h1
  · omega
theorem snoc_lt {o : List Nat} {x b : Nat} (h : ∀ y ∈ o, y < b) (hx : x < b) : ∀ y ∈ o ++ [x], y < b := by
  intro y hy
  rcases List.mem_append.1 hy with h1 | h1
  · exact h y h1
  · obtain rfl := List.mem_singleton.1 h1; exact hx
theorem mem_of_lb {o : List Nat} {p : Nat} (h : ∀ j, j < o.length → lb o j < p) : ∀ x ∈ o, x < p := fun x hx => by
  obtain ⟨j, hj, rfl⟩ := List.mem_iff_getElem.1 hx
  have := h j hj
  unfold lb at this
  rwa [List.getElem?_eq_getElem hj] at this

theorem addr_add_block (a : Addr) (n : Nat) : (a.add n).block = a.block := by unfold Addr.add; split <;> rfl
theorem addr_add_add (a : Addr) (i j : Nat) : (a.add i).add j = a.add (i + j) := by
  unfold Addr.add
  by_cases hi : i = 0 <;> by_cases hj : j = 0 <;> simp [hi, hj, Nat.add_assoc]
theorem addr_add_zero (a : Addr) : a.add 0 = a := by simp [Addr.add]
theorem addr_zero_add (g j : Nat) : (⟨g, 0, none⟩ : Addr).add j = ⟨g, j, none⟩ := by unfold Addr.add; split <;> simp_all

/-- The value v is a slice of uint32 whose first cells are the numbers xs. -/
def U (w : World) (v : Value) (xs : List Nat) : Prop :=
  ∃ (A : Option Addr) (c : Nat), v = .slice A xs.length c ∧ (xs.length ≤ c ∧ xs.length ≤ 9223372036854775807) ∧ (∀ x ∈ xs, x < 4294967296) ∧
    (0 < xs.length → ∃ ad, A = some ad ∧ ad.block < w.heap.size ∧ ∀ j, j < xs.length → w.cell? (ad.add j) = some (.int .u32 (lb xs j : Nat)))
theorem U.keep {w w' : World} {v : Value} {xs : List Nat} (h : U w v xs) (hs : w.heap.size ≤ w'.heap.size) (hk : ∀ p : Addr, p.block < w.heap.size → w'.cell? p = w.cell? p) : U w' v xs := by
  obtain ⟨A, c, rfl, hc, hx, hr⟩ := h
  refine ⟨A, c, rfl, hc, hx, fun h0 => ?_⟩
  obtain ⟨ad, hA, hb, hcell⟩ := hr h0
  exact ⟨ad, hA, by omega, fun j hj => (hk _ (by rw [addr_add_block]; exact hb)).trans (hcell j hj)⟩
theorem U.below {w w' : World} {v : Value} {xs : List Nat} (h : U w v xs) (hb : Below w.heap.size w w') : U w' v xs := h.keep hb.size fun _ hp => hb.cell hp
theorem U.lim {w : World} {v : Value} {xs : List Nat} (h : U w v xs) : ∀ x ∈ xs, x < 4294967296 := by
  obtain ⟨A, c, rfl, hc, hx, hr⟩ := h; exact hx
theorem U.nil_ (w : World) (A : Option Addr) (c : Nat) : U w (.slice A 0 c) [] := ⟨A, c, rfl, ⟨Nat.zero_le _, Nat.zero_le _⟩, by simp, fun h => absurd h (by simp)⟩
/-- The first k. -/
theorem U.take {w : World} {A : Option Addr} {n c : Nat} {xs : List Nat} (h : U w (.slice A n c) xs) {k c' : Nat} (hk : k ≤ n) (hc' : k ≤ c') : U w (.slice A k c') (xs.take k) := by
  obtain ⟨A, c, hv, hc, hx, hr⟩ := h
  injection hv with h1 h2 h3
  subst h1 h2 h3
  have hlen : (xs.take k).length = k := by simp; omega
  refine ⟨_, c', by rw [hlen], by omega, fun x hx' => hx x (List.mem_of_mem_take hx'), fun h0 => ?_⟩
  obtain ⟨ad, hA, hb, hcell⟩ := hr (by omega)
  refine ⟨ad, hA, hb, fun j hj => ?_⟩
  rw [hcell j (by omega), lb_take (by omega)]

def L32 (o : List Nat) : List Value := o.map fun x => Value.int .u32 (x : Nat)
theorem L32_length (o : List Nat) : (L32 o).length = o.length := by simp [L32]
theorem L32_get (o : List Nat) {j : Nat} (h : j < o.length) : (L32 o)[j]? = some (.int .u32 (lb o j : Nat)) := by
  unfold L32 lb; simp [h]
theorem L32_append (a b : List Nat) : L32 (a ++ b) = L32 a ++ L32 b := by simp [L32]
theorem L32_set (a : List Nat) (i x : Nat) : L32 (a.set i x) = (L32 a).set i (.int .u32 (x : Nat)) := by simp [L32, List.map_set]
theorem L32_zeros (k : Nat) : L32 (List.replicate k 0) = List.replicate k (.int .u32 0) := by simp [L32]

/-- v is a row of the call's own, from block base on: the numbers o. -/
def Own (w : World) (base : Nat) (v : Value) (o : List Nat) : Prop := w.ownsRow base 56 1 v o.length (L32 o)
theorem Own.toU {w : World} {base : Nat} {v : Value} {o : List Nat} (h : Own w base v o) (hx : ∀ x ∈ o, x < 4294967296) (hm : o.length ≤ 9223372036854775807) : U w v o := by
  have h0 : w.ownsRow base 56 1 v o.length (L32 o) := h
  rcases h0.2 with ⟨rfl, h1⟩ | ⟨g, cap, cur, rfl, hg, hh, h1, h2, h3, h4⟩
  · refine ⟨none, 0, by rw [h1], by omega, hx, fun hp => absurd hp (by omega)⟩
  · refine ⟨_, cap, rfl, ⟨h1, hm⟩, hx, fun hp => ⟨_, rfl, (h0.lt g rfl).2, fun j hj => ?_⟩⟩
    exact h0.cells (g := g) rfl j _ (L32_get o hj)
theorem Own.cell {w : World} {base g c : Nat} {o : List Nat} (h : Own w base (.slice (some ⟨g, 0, none⟩) o.length c) o) {j : Nat} (hj : j < o.length) : w.cell? ⟨g, j, none⟩ = some (.int .u32 (lb o j : Nat)) := by
  rw [World.ownsRow.cellAt h j (by omega)]; exact L32_get o hj
theorem Own.frozen {w : World} {base g c : Nat} {o : List Nat} (h : Own w base (.slice (some ⟨g, 0, none⟩) o.length c) o) (j : Nat) : w.frozen? ⟨g, j, none⟩ = false := World.ownsRow.frozenAt h j
theorem Own.set_ {w : World} {base g c : Nat} {o : List Nat} (h : Own w base (.slice (some ⟨g, 0, none⟩) o.length c) o) (j x : Nat) : Own (w.setCell ⟨g, j, none⟩ (.int .u32 (x : Nat))) base (.slice (some ⟨g, 0, none⟩) (o.set j x).length c) (o.set j x) := by
  have := (World.ownsRow.stored h j (.int .u32 (x : Nat))).1
  unfold Own
  rw [L32_set, List.length_set]
  exact this
theorem Own.drew {w : World} {base : Nat} {v : Value} {o : List Nat} (h : Own w base v o) : Own w.drew base v o := h
theorem Own.drewN {w : World} {base : Nat} {v : Value} {o : List Nat} (h : Own w base v o) (n : Nat) : Own (w.drewN n) base v o := h
theorem Own.alloc {w : World} {base : Nat} {v : Value} {o : List Nat} (h : Own w base v o) (x : Obj) : Own (w.alloc x) base v o := World.ownsRow.alloc h x
theorem Own.block {w : World} {base g n c : Nat} {o : List Nat} (h : Own w base (.slice (some ⟨g, 0, none⟩) n c) o) : base ≤ g ∧ g < w.heap.size := by
  have h0 : w.ownsRow base 56 1 (.slice (some ⟨g, 0, none⟩) n c) o.length (L32 o) := h
  exact h0.lt g rfl
theorem Own.caps {w : World} {base g n c : Nat} {o : List Nat} (h : Own w base (.slice (some ⟨g, 0, none⟩) n c) o) : n = o.length ∧ n ≤ c ∧ c ≤ maxLen := by
  rcases h.2 with ⟨h1, _⟩ | ⟨g', cap, cur, h1, hg, hh, h2, h3, h4, h5⟩
  · cases h1
  · injection h1 with e1 e2 e3
    subst e2 e3
    exact ⟨rfl, h2, h3⟩
/-- A row stays where nothing below a block that lies above it has turned. -/
theorem Own.below {w w' : World} {base B : Nat} {v : Value} {o : List Nat} (h : Own w base v o) (hB : Below B w w') (hv : ∀ g, v.ownBlock = some g → g < B) : Own w' base v o := by
  refine ⟨h.1, ?_⟩
  rcases h.2 with hn | ⟨g, cap, cur, rfl, hb, hgg, rest⟩
  · exact .inl hn
  · refine .inr ⟨g, cap, cur, rfl, hb, ?_, rest⟩
    rw [hB.block g (hv g rfl)]
    exact hgg
theorem Own.base_mono {w : World} {base base' : Nat} {v : Value} {o : List Nat} (h : Own w base v o) (hb : base' ≤ base) : Own w base' v o := by
  refine ⟨h.1, ?_⟩
  rcases h.2 with hn | ⟨g, cap, cur, rfl, hg, rest⟩
  · exact .inl hn
  · exact .inr ⟨g, cap, cur, rfl, by omega, rest⟩
theorem Own.zeros {w : World} {base g : Nat} {n : Nat} (h : w.ownsRow base 56 1 (.slice (some ⟨g, 0, none⟩) n n) n (madeCells (Value.int .u32 0).cells (n * 1)).toList) :
    Own w base (.slice (some ⟨g, 0, none⟩) (List.replicate n 0).length n) (List.replicate n 0) := by
  have e : (madeCells (Value.int .u32 0).cells (n * 1)).toList = L32 (List.replicate n 0) := by
    rw [L32_zeros, Nat.mul_one]; exact toList_madeCells_one _ _
  rw [e] at h
  unfold Own
  rw [List.length_replicate]
  exact h

def okV (r : Result Value) : Value := match r with | .ok v _ => v | _ => undef
def okW (w : World) (r : Result Value) : World := match r with | .ok _ w' => w' | _ => w
/-- The append runs to its end. -/
def AppOk (P : Program) (t ty : TypeId) (s x : Value) (w : World) : Prop := ∃ v w', (Builtin.append_ #[t, t] ty #[s, x]).run P w = .ok v w'
/-- What it hands back, and the world that it leaves. -/
def AV (P : Program) (t ty : TypeId) (s x : Value) (w : World) : Value := okV ((Builtin.append_ #[t, t] ty #[s, x]).run P w)
def AW (P : Program) (t ty : TypeId) (s x : Value) (w : World) : World := okW w ((Builtin.append_ #[t, t] ty #[s, x]).run P w)
/-- The builtin, shut. -/
def AppS (ts : Array TypeId) (ty : TypeId) (args : Array Value) : Sem Value := Builtin.append_ ts ty args
theorem app_shut (ts : Array TypeId) (ty : TypeId) (args : Array Value) : Builtin.append_ ts ty args = AppS ts ty args := rfl
theorem run_append_tok {P : Program} {t ty : TypeId} {s x : Value} {w : World} (h : AppOk P t ty s x w) :
    (AppS #[t, t] ty #[s, x]).run P w = .ok (AV P t ty s x w) (AW P t ty s x w) := by
  obtain ⟨v, w', h⟩ := h
  unfold AV AW AppS
  rw [h]
  rfl
theorem app_tok {P : Program} {t ty : TypeId} {s x : Value} {w : World} {v : Value} {w' : World} (h : (Builtin.append_ #[t, t] ty #[s, x]).run P w = .ok v w') :
    AppOk P t ty s x w ∧ AV P t ty s x w = v ∧ AW P t ty s x w = w' := by
  refine ⟨⟨v, w', h⟩, ?_, ?_⟩
  · unfold AV; rw [h]; rfl
  · unfold AW; rw [h]; rfl
theorem info32 : (Tryz.prog.info? 56).map (fun i => (i.zero, i.size, i.bytes)) = some (some (.int .u32 0), 1, 4) := by kernel_rfl
theorem run_append_none {P : Program} (w : World) (base : Nat) (t ty e : TypeId) (i : TypeInfo) (size : Nat) (ht : P.underlying t = some (.slice e)) (hi : P.info? e = some i)
    (v : Value) (n c : Nat) (xs : List Value) (hown : w.ownsRow base e size v n xs) :
    (Builtin.append_ #[t, t] ty #[v, .slice none 0 c]).run P w = .ok v w := by
  rcases hown.2 with ⟨rfl, rfl⟩ | ⟨g, cap, cur, rfl, _, _, hnc, _⟩
  · simp [Builtin.append_, run_underlying ht, sizeOf, typeInfo, hi, Builtin.lenOf, Builtin.firstCells]
  · simp [Builtin.append_, run_underlying ht, sizeOf, typeInfo, hi, Builtin.lenOf, Builtin.firstCells, hnc, storeCells]
/-- Numbers of a slice appended to a row of the call's own. -/
theorem run_append_U (w : World) (base : Nat) (v : Value) (o : List Nat) (hown : Own w base v o) (x : Value) (ys : List Nat) (hx : U w x ys) (hlen : o.length + ys.length ≤ 35184372088832) (hbase : base ≤ w.heap.size) :
    ∃ v' w', (Builtin.append_ #[22, 22] 22 #[v, x]).run Tryz.prog w = .ok v' w' ∧ Own w' base v' (o ++ ys) ∧ w.grownBy w' v.ownBlock := by
  obtain ⟨i0, hi, hz0, hz1, hz2⟩ := info_parts info32
  obtain ⟨A, c, rfl, ⟨h1, h2⟩, hlt, hr⟩ := hx
  cases A with
  | none =>
    have h0 : ys.length = 0 := by
      rcases Nat.eq_zero_or_pos ys.length with h0 | h0
      · exact h0
      · obtain ⟨ad, h, _⟩ := hr h0; cases h
    obtain rfl := List.eq_nil_of_length_eq_zero h0
    refine ⟨v, w, run_append_none w base 22 22 56 i0 1 Tryz.underlying22 hi v _ c _ hown, by rw [List.append_nil]; exact hown, World.grownBy.refl w _⟩
  | some ad =>
    have hcells : ∀ j u, (L32 ys)[j]? = some u → w.cell? (ad.add j) = some u := fun j u hj => by
      have hjl : j < ys.length := by
        rcases Nat.lt_or_ge j ys.length with h | h
        · exact h
        · rw [List.getElem?_eq_none (by rw [L32_length]; exact h)] at hj; cases hj
      obtain ⟨ad', e', _, hcell⟩ := hr (by omega)
      replace e' := Option.some.inj e'
      subst e'
      rw [hcell j hjl, ← L32_get ys hjl, hj]
    obtain ⟨v', w', hrun, hown', hg, _⟩ := run_append_own (P := Tryz.prog) w base 22 22 56 i0 (.int .u32 0) 1 4 Tryz.underlying22 hi hz0 hz1 hz2 rfl (by decide) v o.length (L32 o) hown ad ys.length c (L32 ys) (by rw [L32_length, Nat.mul_one]) hcells
      (by intro u hu; obtain ⟨z, _, rfl⟩ := List.mem_map.1 hu; rfl) (by unfold maxLen; omega) (by omega) hbase
    exact ⟨v', w', hrun, by unfold Own; rw [L32_append, List.length_append]; exact hown', hg⟩

/-- The world b is a with more in it: whatever lay lies as it lay. -/
def Ext (a b : World) : Prop := Below a.heap.size a b
theorem Ext.refl (w : World) : Ext w w := Below.refl _ _
theorem Ext.alloc {a b : World} (h : Ext a b) (o : Obj) : Ext a (b.alloc o) := Below.alloc h h.size o
theorem Ext.below {a b c : World} (h : Ext a b) (k : Ext b c) : Ext a c := Below.trans h (Below.mono k h.size)
theorem Ext.drew {a b : World} (h : Ext a b) : Ext a b.drew := Below.drew h
theorem U.alloc {w : World} {v : Value} {xs : List Nat} (h : U w v xs) (o : Obj) : U (w.alloc o) v xs := U.below h ((Ext.refl w).alloc o)
theorem ext_drewN (w : World) (n : Nat) : Ext w (w.drewN n) := ⟨rfl, rfl, rfl, Nat.le_refl _, fun _ _ => rfl⟩
theorem U_lit (w : World) (xs : List Nat) (hx : ∀ x ∈ xs, x < 4294967296) (hm : xs.length ≤ 1000000) : U (w.alloc (.cells (L32 xs).toArray 56)) (.slice (some ⟨w.heap.size, 0, none⟩) xs.length xs.length) xs := by
  refine Own.toU (base := w.heap.size) ?_ hx (by omega)
  have := World.ownsRow_lit (base := w.heap.size) (e := 56) (size := 1) w (L32 xs).toArray xs.length (Nat.le_refl _) (by unfold maxLen; omega) (by simp [L32_length])
  simpa [Own] using this
/-- One number more. -/
theorem push_own {w0 w : World} {B : Nat} (hB0 : B ≤ w0.heap.size) (hB : Below B w0 w) {v : Value} {o : List Nat} (hown : Own w B v o) (z : Int) (x : Nat) (hz : z = (x : Int)) (hx : x < 4294967296) (hlen : o.length + 1 ≤ 35184372088832) :
    ∃ v' w', (Builtin.append_ #[22, 22] 22 #[v, .slice (some ⟨w.heap.size, 0, none⟩) 1 1]).run Tryz.prog (w.alloc (.cells #[.int .u32 z] 56)) = .ok v' w' ∧ Own w' B v' (o ++ [x]) ∧ Below B w0 w' := by
  subst hz
  have hu : U (w.alloc (.cells #[.int .u32 (x : Int)] 56)) (.slice (some ⟨w.heap.size, 0, none⟩) 1 1) [x] := U_lit w [x] (by simpa using hx) (by simp)
  have hs := hB.size
  have hB1 := hB.alloc (by omega) (.cells #[.int .u32 (x : Int)] 56)
  have hs1 := hB1.size
  obtain ⟨v', w', hrun, ho, hg⟩ := run_append_U _ B _ o (World.ownsRow.alloc hown _) _ _ hu (by simpa using hlen) (by omega)
  exact ⟨v', w', hrun, ho, hB1.grown hg (by omega) (fun j e => (World.ownsRow.lt hown j e).1)⟩
theorem ret_int {k : IntKind} {a b : Int} (h : a = b) : Ending.returned (.int k a) = .returned (.int k b) := by rw [h]
end Go.Proofs.YtfkcdmbiihkiiaaGreatDoor
