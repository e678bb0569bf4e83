/- Slices of 32-bit numbers: read, made by the call itself, appended to. -/
import Derived.Below
import Derived.Laws.OwnMore
import Derived.Laws.AppendOwn
import Derived.Laws.BitsAllLaws
import Derived.Laws.Bits64
import Derived.Deep.AppendLies
import Derived.Deep.Draws
import Derived.Lib.Hide
import Derived.OwnWalk
import Derived.Test.YtigdflfhepelaaaGreatDoorProg
import Derived.WalkKit
import Derived.ProofKit
import Derived.OpenShut
import Derived.JoinedCond
import Derived.RegionTactic
import Derived.LoopTactic
import Derived.BigQuiet
import Derived.Deep.QuietTactic
import Derived.Outline
import Derived.Deep.RegionHeld3

namespace Go.Proofs.YtigdflfhepelaaaGreatDoor
open Go.RowKit
set_option linter.unusedVariables false

/-- The j-th number, 0 beyond. -/
def lb (xs : List Nat) (j : Nat) : Nat := xs[j]?.getD 0
theorem lb_lt_of {xs : List Nat} {p : Nat} (hp : 0 < p) (h : ∀ x ∈ xs, x < p) (j : Nat) : lb xs j < p := by
  unfold lb
  by_cases hj : j < xs.length
  · rw [List.getElem?_eq_getElem hj]; exact h _ (List.getElem_mem hj)
  · rw [List.getElem?_eq_none (by omega)]; exact hp
theorem lb_lt {xs : List Nat} (h : ∀ x ∈ xs, x < 4294967296) (j : Nat) : lb xs j < 4294967296 := lb_lt_of (by decide) h j
theorem ext_lb {xs ys : List Nat} (hl : xs.length = ys.length) (h : ∀ j, j < xs.length → lb xs j = lb ys j) : xs = ys := by
  apply List.ext_getElem hl
  intro i h1 h2
  have := h i h1
  unfold lb at this
  rwa [List.getElem?_eq_getElem h1, List.getElem?_eq_getElem h2] at this
theorem lb_take {xs : List Nat} {k j : Nat} (h : j < k) : lb (xs.take k) j = lb xs j := by
  unfold lb; rw [List.getElem?_take, if_pos h]
theorem lb_drop (xs : List Nat) (q i : Nat) : lb (xs.drop q) i = lb xs (q + i) := by unfold lb; rw [List.getElem?_drop]
theorem lb_set_same {o : List Nat} {j : Nat} (x : Nat) (h : j < o.length) : lb (o.set j x) j = x := by simp [lb, h]
theorem lb_set_other {o : List Nat} {i j : Nat} (x : Nat) (h : i ≠ j) : lb (o.set i x) j = lb o j := by simp [lb, h]
theorem lb_set (o : List Nat) (i j x : Nat) (h : i < o.length) : lb (o.set i x) j = if i = j then x else lb o j := by
  by_cases e : i = j
  · subst e; rw [if_pos rfl, lb_set_same x h]
  · rw [if_neg e, lb_set_other x e]
theorem lb_zeros (n j : Nat) : lb (List.replicate n 0) j = 0 := by
  unfold lb; by_cases h : j < n <;> simp [h]
theorem lb_out {o : List Nat} {j : Nat} (h : o.length ≤ j) : lb o j = 0 := by simp [lb, List.getElem?_eq_none h]
theorem lb_append (o u : List Nat) (j : Nat) : lb (o ++ u) j = if j < o.length then lb o j else lb u (j - o.length) := by
  unfold lb; rw [List.getElem?_append]; split <;> rfl
theorem lb_snoc (o : List Nat) (x j : Nat) : lb (o ++ [x]) j = if j = o.length then x else lb o j := by
  rw [lb_append]
  by_cases h : j < o.length
  · rw [if_pos h, if_neg (by omega)]
  · by_cases e : j = o.length
    · rw [if_neg h, if_pos e, e, Nat.sub_self]; rfl
    · rw [if_neg h, if_neg e, lb_out (by simp; omega), lb_out (by omega)]
theorem set_lt {o : List Nat} {j x b : Nat} (h : ∀ y ∈ o, y < b) (hx : x < b) : ∀ y ∈ o.set j x, y < b := by
  intro y hy
  rcases List.mem_or_eq_of_mem_set hy with h1 | h1
  · exact h y h1
  · omega
theorem snoc_lt {o : List Nat} {x b : Nat} (h : ∀ y ∈ o, y < b) (hx : x < b) : ∀ y ∈ o ++ [x], y < b := by
  intro y hy
  rcases List.mem_append.1 hy with h1 | h1
  · exact h y h1
  · obtain rfl := List.mem_singleton.1 h1; exact hx
theorem mem_of_lb {o : List Nat} {p : Nat} (h : ∀ j, j < o.length → lb o j < p) : ∀ x ∈ o, x < p := fun x hx => by
  obtain ⟨j, hj, rfl⟩ := List.mem_iff_getElem.1 hx
  have := h j hj
  unfold lb at this
  rwa [List.getElem?_eq_getElem hj] at this

theorem addr_add_block (a : Addr) (n : Nat) : (a.add n).block = a.block := by unfold Addr.add; split <;> rfl
theorem addr_add_add (a : Addr) (i j : Nat) : (a.add i).add j = a.add (i + j) := by
  unfold Addr.add
  by_cases hi : i = 0 <;> by_cases hj : j = 0 <;> simp [hi, hj, Nat.add_assoc]
theorem addr_add_zero (a : Addr) : a.add 0 = a := by simp [Addr.add]
theorem addr_zero_add (g j : Nat) : (⟨g, 0, none⟩ : Addr).add j = ⟨g, j, none⟩ := by unfold Addr.add; split <;> simp_all

/-- The value v is a slice of uint32 whose first cells are the numbers xs. -/
def U (w : World) (v : Value) (xs : List Nat) : Prop :=
  ∃ (A : Option Addr) (c : Nat), v = .slice A xs.length c ∧ (xs.length ≤ c ∧ xs.length ≤ 9223372036854775807) ∧ (∀ x ∈ xs, x < 4294967296) ∧
    (0 < xs.length → ∃ ad, A = some ad ∧ ad.block < w.heap.size ∧ ∀ j, j < xs.length → w.cell? (ad.add j) = some (.int .u32 (lb xs j : Nat)))
theorem U.keep {w w' : World} {v : Value} {xs : List Nat} (h : U w v xs) (hs : w.heap.size ≤ w'.heap.size) (hk : ∀ p : Addr, p.block < w.heap.size → w'.cell? p = w.cell? p) : U w' v xs := by
  obtain ⟨A, c, rfl, hc, hx, hr⟩ := h
  refine ⟨A, c, rfl, hc, hx, fun h0 => ?_⟩
  obtain ⟨ad, hA, hb, hcell⟩ := hr h0
  exact ⟨ad, hA, by omega, fun j hj => (hk _ (by rw [addr_add_block]; exact hb)).trans (hcell j hj)⟩
theorem U.below {w w' : World} {v : Value} {xs : List Nat} (h : U w v xs) (hb : Below w.heap.size w w') : U w' v xs := h.keep hb.size fun _ hp => hb.cell hp
theorem U.lim {w : World} {v : Value} {xs : List Nat} (h : U w v xs) : ∀ x ∈ xs, x < 4294967296 := by
  obtain ⟨A, c, rfl, hc, hx, hr⟩ := h; exact hx
theorem U.nil_ (w : World) (A : Option Addr) (c : Nat) : U w (.slice A 0 c) [] := ⟨A, c, rfl, ⟨Nat.zero_le _, Nat.zero_le _⟩, by simp, fun h => absurd h (by simp)⟩
theorem U.len_le {w : World} {v : Value} {xs : List Nat} (h : U w v xs) : xs.length ≤ 9223372036854775807 := by
  obtain ⟨A, c, rfl, hc, hx, hr⟩ := h; exact hc.2
/-- The first k. -/
theorem U.take {w : World} {A : Option Addr} {n c : Nat} {xs : List Nat} (h : U w (.slice A n c) xs) {k c' : Nat} (hk : k ≤ n) (hc' : k ≤ c') : U w (.slice A k c') (xs.take k) := by
  obtain ⟨A, c, hv, hc, hx, hr⟩ := h
  injection hv with h1 h2 h3
  subst h1 h2 h3
  have hlen : (xs.take k).length = k := by simp; omega
  refine ⟨_, c', by rw [hlen], by omega, fun x hx' => hx x (List.mem_of_mem_take hx'), fun h0 => ?_⟩
  obtain ⟨ad, hA, hb, hcell⟩ := hr (by omega)
  refine ⟨ad, hA, hb, fun j hj => ?_⟩
  rw [hcell j (by omega), lb_take (by omega)]

theorem bcell {W w1 : World} {B : Nat} (hb : Below B W w1) : (∀ b o, b < B → w1.cell? ⟨b, o, none⟩ = W.cell? ⟨b, o, none⟩) ∧ (∀ b o, b < B → w1.frozen? ⟨b, o, none⟩ = W.frozen? ⟨b, o, none⟩) :=
  ⟨fun b o h => hb.cell (p := ⟨b, o, none⟩) h, fun b o h => hb.frozen (p := ⟨b, o, none⟩) h⟩

def L32 (o : List Nat) : List Value := o.map fun x => Value.int .u32 (x : Nat)
theorem L32_length (o : List Nat) : (L32 o).length = o.length := by simp [L32]
theorem L32_get (o : List Nat) {j : Nat} (h : j < o.length) : (L32 o)[j]? = some (.int .u32 (lb o j : Nat)) := by
  unfold L32 lb; simp [h]
theorem L32_append (a b : List Nat) : L32 (a ++ b) = L32 a ++ L32 b := by simp [L32]
theorem L32_set (a : List Nat) (i x : Nat) : L32 (a.set i x) = (L32 a).set i (.int .u32 (x : Nat)) := by simp [L32, List.map_set]
theorem L32_zeros (k : Nat) : L32 (List.replicate k 0) = List.replicate k (.int .u32 0) := by simp [L32]

/-- v is a row of the call's own, from block base on: the numbers o. -/
def Own (w : World) (base : Nat) (v : Value) (o : List Nat) : Prop := w.ownsRow base 46 1 v o.length (L32 o)
theorem Own.toU {w : World} {base : Nat} {v : Value} {o : List Nat} (h : Own w base v o) (hx : ∀ x ∈ o, x < 4294967296) (hm : o.length ≤ 9223372036854775807) : U w v o := by
  have h0 : w.ownsRow base 46 1 v o.length (L32 o) := h
  rcases h0.2 with ⟨rfl, h1⟩ | ⟨g, cap, cur, rfl, hg, hh, h1, h2, h3, h4⟩
  · refine ⟨none, 0, by rw [h1], by omega, hx, fun hp => absurd hp (by omega)⟩
  · refine ⟨_, cap, rfl, ⟨h1, hm⟩, hx, fun hp => ⟨_, rfl, (h0.lt g rfl).2, fun j hj => ?_⟩⟩
    exact h0.cells (g := g) rfl j _ (L32_get o hj)
theorem Own.cell {w : World} {base g c : Nat} {o : List Nat} (h : Own w base (.slice (some ⟨g, 0, none⟩) o.length c) o) {j : Nat} (hj : j < o.length) : w.cell? ⟨g, j, none⟩ = some (.int .u32 (lb o j : Nat)) := by
  rw [World.ownsRow.cellAt h j (by omega)]; exact L32_get o hj
theorem Own.frozen {w : World} {base g c : Nat} {o : List Nat} (h : Own w base (.slice (some ⟨g, 0, none⟩) o.length c) o) (j : Nat) : w.frozen? ⟨g, j, none⟩ = false := World.ownsRow.frozenAt h j
theorem Own.set_ {w : World} {base g c : Nat} {o : List Nat} (h : Own w base (.slice (some ⟨g, 0, none⟩) o.length c) o) (j x : Nat) : Own (w.setCell ⟨g, j, none⟩ (.int .u32 (x : Nat))) base (.slice (some ⟨g, 0, none⟩) (o.set j x).length c) (o.set j x) := by
  have := (World.ownsRow.stored h j (.int .u32 (x : Nat))).1
  unfold Own
  rw [L32_set, List.length_set]
  exact this
theorem Own.drew {w : World} {base : Nat} {v : Value} {o : List Nat} (h : Own w base v o) : Own w.drew base v o := h
theorem Own.drewN {w : World} {base : Nat} {v : Value} {o : List Nat} (h : Own w base v o) (n : Nat) : Own (w.drewN n) base v o := h
theorem Own.alloc {w : World} {base : Nat} {v : Value} {o : List Nat} (h : Own w base v o) (x : Obj) : Own (w.alloc x) base v o := World.ownsRow.alloc h x
theorem Own.block {w : World} {base g n c : Nat} {o : List Nat} (h : Own w base (.slice (some ⟨g, 0, none⟩) n c) o) : base ≤ g ∧ g < w.heap.size := by
  have h0 : w.ownsRow base 46 1 (.slice (some ⟨g, 0, none⟩) n c) o.length (L32 o) := h
  exact h0.lt g rfl
theorem Own.caps {w : World} {base g n c : Nat} {o : List Nat} (h : Own w base (.slice (some ⟨g, 0, none⟩) n c) o) : n = o.length ∧ n ≤ c ∧ c ≤ maxLen := by
  rcases h.2 with ⟨h1, _⟩ | ⟨g', cap, cur, h1, hg, hh, h2, h3, h4, h5⟩
  · cases h1
  · injection h1 with e1 e2 e3
    subst e2 e3
    exact ⟨rfl, h2, h3⟩
/-- A row stays where nothing below a block that lies above it has turned. -/
theorem Own.below {w w' : World} {base B : Nat} {v : Value} {o : List Nat} (h : Own w base v o) (hB : Below B w w') (hv : ∀ g, v.ownBlock = some g → g < B) : Own w' base v o := by
  refine ⟨h.1, ?_⟩
  rcases h.2 with hn | ⟨g, cap, cur, rfl, hb, hgg, rest⟩
  · exact .inl hn
  · refine .inr ⟨g, cap, cur, rfl, hb, ?_, rest⟩
    rw [hB.block g (hv g rfl)]
    exact hgg
theorem Own.base_mono {w : World} {base base' : Nat} {v : Value} {o : List Nat} (h : Own w base v o) (hb : base' ≤ base) : Own w base' v o := by
  refine ⟨h.1, ?_⟩
  rcases h.2 with hn | ⟨g, cap, cur, rfl, hg, rest⟩
  · exact .inl hn
  · exact .inr ⟨g, cap, cur, rfl, by omega, rest⟩
/-- A row is at home in its own block. -/
theorem Own.home {w : World} {base g n c : Nat} {o : List Nat} (h : Own w base (.slice (some ⟨g, 0, none⟩) n c) o) : Own w g (.slice (some ⟨g, 0, none⟩) n c) o := by
  refine ⟨h.1, ?_⟩
  rcases h.2 with ⟨h1, _⟩ | ⟨g', cap, cur, h1, hg, hh, rest⟩
  · cases h1
  · injection h1 with e1 e2 e3
    injection e1 with e1
    injection e1 with e1
    subst e1
    exact .inr ⟨g, cap, cur, by rw [e2, e3], Nat.le_refl _, hh, rest⟩
theorem Own.zeros {w : World} {base g : Nat} {n : Nat} (h : w.ownsRow base 46 1 (.slice (some ⟨g, 0, none⟩) n n) n (madeCells (Value.int .u32 0).cells (n * 1)).toList) :
    Own w base (.slice (some ⟨g, 0, none⟩) (List.replicate n 0).length n) (List.replicate n 0) := by
  have e : (madeCells (Value.int .u32 0).cells (n * 1)).toList = L32 (List.replicate n 0) := by
    rw [L32_zeros, Nat.mul_one]; exact toList_madeCells_one _ _
  rw [e] at h
  unfold Own
  rw [List.length_replicate]
  exact h

def okV (r : Result Value) : Value := match r with | .ok v _ => v | _ => undef
def okW (w : World) (r : Result Value) : World := match r with | .ok _ w' => w' | _ => w
/-- The append runs to its end. -/
def AppOk (P : Program) (t ty : TypeId) (s x : Value) (w : World) : Prop := ∃ v w', (Builtin.append_ #[t, t] ty #[s, x]).run P w = .ok v w'
/-- What it hands back, and the world that it leaves. -/
def AV (P : Program) (t ty : TypeId) (s x : Value) (w : World) : Value := okV ((Builtin.append_ #[t, t] ty #[s, x]).run P w)
def AW (P : Program) (t ty : TypeId) (s x : Value) (w : World) : World := okW w ((Builtin.append_ #[t, t] ty #[s, x]).run P w)
/-- The builtin, shut. -/
def AppS (ts : Array TypeId) (ty : TypeId) (args : Array Value) : Sem Value := Builtin.append_ ts ty args
theorem app_shut (ts : Array TypeId) (ty : TypeId) (args : Array Value) : Builtin.append_ ts ty args = AppS ts ty args := rfl
theorem run_append_tok {P : Program} {t ty : TypeId} {s x : Value} {w : World} (h : AppOk P t ty s x w) :
    (AppS #[t, t] ty #[s, x]).run P w = .ok (AV P t ty s x w) (AW P t ty s x w) := by
  obtain ⟨v, w', h⟩ := h
  unfold AV AW AppS
  rw [h]
  rfl
theorem app_tok {P : Program} {t ty : TypeId} {s x : Value} {w : World} {v : Value} {w' : World} (h : (Builtin.append_ #[t, t] ty #[s, x]).run P w = .ok v w') :
    AppOk P t ty s x w ∧ AV P t ty s x w = v ∧ AW P t ty s x w = w' := by
  refine ⟨⟨v, w', h⟩, ?_, ?_⟩
  · unfold AV; rw [h]; rfl
  · unfold AW; rw [h]; rfl
theorem info32 : (Tryz.prog.info? 46).map (fun i => (i.zero, i.size, i.bytes)) = some (some (.int .u32 0), 1, 4) := by kernel_rfl
theorem run_append_none {P : Program} (w : World) (base : Nat) (t ty e : TypeId) (i : TypeInfo) (size : Nat) (ht : P.underlying t = some (.slice e)) (hi : P.info? e = some i)
    (v : Value) (n c : Nat) (xs : List Value) (hown : w.ownsRow base e size v n xs) :
    (Builtin.append_ #[t, t] ty #[v, .slice none 0 c]).run P w = .ok v w := by
  rcases hown.2 with ⟨rfl, rfl⟩ | ⟨g, cap, cur, rfl, _, _, hnc, _⟩
  · simp [Builtin.append_, run_underlying ht, sizeOf, typeInfo, hi, Builtin.lenOf, Builtin.firstCells]
  · simp [Builtin.append_, run_underlying ht, sizeOf, typeInfo, hi, Builtin.lenOf, Builtin.firstCells, hnc, storeCells]
/-- Numbers of a slice appended to a row of the call's own. -/
theorem run_append_U (w : World) (base : Nat) (v : Value) (o : List Nat) (hown : Own w base v o) (x : Value) (ys : List Nat) (hx : U w x ys) (hlen : o.length + ys.length ≤ 35184372088832) (hbase : base ≤ w.heap.size) :
    ∃ v' w', (Builtin.append_ #[22, 22] 22 #[v, x]).run Tryz.prog w = .ok v' w' ∧ Own w' base v' (o ++ ys) ∧ w.grownBy w' v.ownBlock := by
  obtain ⟨i0, hi, hz0, hz1, hz2⟩ := info_parts info32
  obtain ⟨A, c, rfl, ⟨h1, h2⟩, hlt, hr⟩ := hx
  cases A with
  | none =>
    have h0 : ys.length = 0 := by
      rcases Nat.eq_zero_or_pos ys.length with h0 | h0
      · exact h0
      · obtain ⟨ad, h, _⟩ := hr h0; cases h
    obtain rfl := List.eq_nil_of_length_eq_zero h0
    refine ⟨v, w, run_append_none w base 22 22 46 i0 1 Tryz.underlying22 hi v _ c _ hown, by rw [List.append_nil]; exact hown, World.grownBy.refl w _⟩
  | some ad =>
    have hcells : ∀ j u, (L32 ys)[j]? = some u → w.cell? (ad.add j) = some u := fun j u hj => by
      have hjl : j < ys.length := by
        rcases Nat.lt_or_ge j ys.length with h | h
        · exact h
        · rw [List.getElem?_eq_none (by rw [L32_length]; exact h)] at hj; cases hj
      obtain ⟨ad', e', _, hcell⟩ := hr (by omega)
      replace e' := Option.some.inj e'
      subst e'
      rw [hcell j hjl, ← L32_get ys hjl, hj]
    obtain ⟨v', w', hrun, hown', hg, _⟩ := run_append_own (P := Tryz.prog) w base 22 22 46 i0 (.int .u32 0) 1 4 Tryz.underlying22 hi hz0 hz1 hz2 rfl (by decide) v o.length (L32 o) hown ad ys.length c (L32 ys) (by rw [L32_length, Nat.mul_one]) hcells
      (by intro u hu; obtain ⟨z, _, rfl⟩ := List.mem_map.1 hu; rfl) (by unfold maxLen; omega) (by omega) hbase
    exact ⟨v', w', hrun, by unfold Own; rw [L32_append, List.length_append]; exact hown', hg⟩

/-- The world b is a with more in it: whatever lay lies as it lay. -/
def Ext (a b : World) : Prop := Below a.heap.size a b
theorem Ext.refl (w : World) : Ext w w := Below.refl _ _
theorem Ext.alloc {a b : World} (h : Ext a b) (o : Obj) : Ext a (b.alloc o) := Below.alloc h h.size o
theorem Ext.below {a b c : World} (h : Ext a b) (k : Ext b c) : Ext a c := Below.trans h (Below.mono k h.size)
theorem Ext.drew {a b : World} (h : Ext a b) : Ext a b.drew := Below.drew h
theorem U.alloc {w : World} {v : Value} {xs : List Nat} (h : U w v xs) (o : Obj) : U (w.alloc o) v xs := U.below h ((Ext.refl w).alloc o)
theorem ext_drewN (w : World) (n : Nat) : Ext w (w.drewN n) := ⟨rfl, rfl, rfl, Nat.le_refl _, fun _ _ => rfl⟩
theorem U_lit (w : World) (xs : List Nat) (hx : ∀ x ∈ xs, x < 4294967296) (hm : xs.length ≤ 1000000) : U (w.alloc (.cells (L32 xs).toArray 46)) (.slice (some ⟨w.heap.size, 0, none⟩) xs.length xs.length) xs := by
  refine Own.toU (base := w.heap.size) ?_ hx (by omega)
  have := World.ownsRow_lit (base := w.heap.size) (e := 46) (size := 1) w (L32 xs).toArray xs.length (Nat.le_refl _) (by unfold maxLen; omega) (by simp [L32_length])
  simpa [Own] using this
theorem U_lit2 (w : World) (N : Nat) (hN : w.heap.size = N) (xs : List Nat) (hx : ∀ x ∈ xs, x < 4294967296) (hm : xs.length ≤ 1000000) : U (w.alloc (.cells (L32 xs).toArray 46)) (.slice (some ⟨N, 0, none⟩) xs.length xs.length) xs := by
  subst hN; exact U_lit w xs hx hm
/-- One number more. -/
theorem push_own {w0 w : World} {B : Nat} (hB0 : B ≤ w0.heap.size) (hB : Below B w0 w) {v : Value} {o : List Nat} (hown : Own w B v o) (z : Int) (x : Nat) (hz : z = (x : Int)) (hx : x < 4294967296) (hlen : o.length + 1 ≤ 35184372088832) :
    ∃ v' w', (Builtin.append_ #[22, 22] 22 #[v, .slice (some ⟨w.heap.size, 0, none⟩) 1 1]).run Tryz.prog (w.alloc (.cells #[.int .u32 z] 46)) = .ok v' w' ∧ Own w' B v' (o ++ [x]) ∧ Below B w0 w' := by
  subst hz
  have hu : U (w.alloc (.cells #[.int .u32 (x : Int)] 46)) (.slice (some ⟨w.heap.size, 0, none⟩) 1 1) [x] := U_lit w [x] (by simpa using hx) (by simp)
  have hs := hB.size
  have hB1 := hB.alloc (by omega) (.cells #[.int .u32 (x : Int)] 46)
  have hs1 := hB1.size
  obtain ⟨v', w', hrun, ho, hg⟩ := run_append_U _ B _ o (World.ownsRow.alloc hown _) _ _ hu (by simpa using hlen) (by omega)
  exact ⟨v', w', hrun, ho, hB1.grown hg (by omega) (fun j e => (World.ownsRow.lt hown j e).1)⟩
theorem ret_int {k : IntKind} {a b : Int} (h : a = b) : Ending.returned (.int k a) = .returned (.int k b) := by rw [h]
end Go.Proofs.YtigdflfhepelaaaGreatDoor
/- Sums and congruences, and what a transform of a power of 2 of numbers comes to: plain integers. -/
namespace Go.Proofs.YtigdflfhepelaaaGreatDoor

/-- The sum of the first n. -/
def sm (n : Nat) (f : Nat → Int) : Int := match n with
  | 0 => 0
  | n + 1 => sm n f + f n
theorem sm_zero (f : Nat → Int) : sm 0 f = 0 := rfl
theorem sm_succ (n : Nat) (f : Nat → Int) : sm (n + 1) f = sm n f + f n := rfl
theorem sm_one (f : Nat → Int) : sm 1 f = f 0 := by rw [sm_succ, sm_zero]; omega
theorem sm_congr {n : Nat} {f g : Nat → Int} (h : ∀ i, i < n → f i = g i) : sm n f = sm n g := by
  induction n with
  | zero => rfl
  | succ n ih => rw [sm_succ, sm_succ, ih fun i hi => h i (by omega), h n (by omega)]
theorem sm_add (n : Nat) (f g : Nat → Int) : sm n (fun i => f i + g i) = sm n f + sm n g := by
  induction n with
  | zero => rfl
  | succ n ih => simp only [sm_succ, ih]; omega
theorem sm_mul (n : Nat) (c : Int) (f : Nat → Int) : sm n (fun i => c * f i) = c * sm n f := by
  induction n with
  | zero => simp [sm_zero]
  | succ n ih => simp only [sm_succ, ih]; rw [Int.mul_add]
theorem sm_mul' (n : Nat) (c : Int) (f : Nat → Int) : sm n (fun i => f i * c) = sm n f * c := by
  rw [Int.mul_comm, ← sm_mul]; exact sm_congr fun i _ => Int.mul_comm _ _
theorem sm_nought (n : Nat) : sm n (fun _ => 0) = 0 := by
  induction n with
  | zero => rfl
  | succ n ih => rw [sm_succ, ih]; rfl
theorem sm_split (m n : Nat) (f : Nat → Int) : sm (m + n) f = sm m f + sm n (fun i => f (m + i)) := by
  induction n with
  | zero => rw [Nat.add_zero, sm_zero]; omega
  | succ n ih => rw [← Nat.add_assoc, sm_succ, sm_succ, ih]; omega
theorem sm_two (h : Nat) (f : Nat → Int) : sm (2 * h) f = sm h (fun i => f i + f (h + i)) := by
  rw [show 2 * h = h + h by omega, sm_split, sm_add]
theorem sm_pairs (h : Nat) (f : Nat → Int) : sm (2 * h) f = sm h (fun i => f (2 * i) + f (2 * i + 1)) := by
  induction h with
  | zero => rfl
  | succ h ih => rw [show 2 * (h + 1) = 2 * h + 1 + 1 by omega, sm_succ, sm_succ, sm_succ, ih]; omega
theorem sm_swap (m n : Nat) (f : Nat → Nat → Int) : sm m (fun i => sm n (fun j => f i j)) = sm n (fun j => sm m (fun i => f i j)) := by
  induction m with
  | zero => simp only [sm_zero, sm_nought]
  | succ m ih => simp only [sm_succ, ih, sm_add]
theorem sm_const (n : Nat) (c : Int) : sm n (fun _ => c) = n * c := by
  induction n with
  | zero => simp [sm_zero]
  | succ n ih => rw [sm_succ, ih]; push_cast; rw [Int.add_mul]; omega
/-- Of one place alone something stands. -/
theorem sm_pick (n : Nat) (f : Nat → Int) (k : Nat) (hk : k < n) (h : ∀ i, i < n → i ≠ k → f i = 0) : sm n f = f k := by
  induction n with
  | zero => omega
  | succ n ih =>
    rw [sm_succ]
    by_cases e : k = n
    · subst e
      have : sm k f = 0 := by rw [sm_congr (g := fun _ => 0) (fun i hi => h i (by omega) (by omega)), sm_nought]
      omega
    · rw [ih (by omega) (fun i hi => h i (by omega)), h n (by omega) (by omega)]; omega

/-- Alike modulo p. -/
def Eqm (p a b : Int) : Prop := ∃ c, a = b + p * c
theorem Eqm.refl (p a : Int) : Eqm p a a := ⟨0, by simp⟩
theorem Eqm.of_eq {p a b : Int} (h : a = b) : Eqm p a b := h ▸ Eqm.refl p a
theorem Eqm.symm {p a b : Int} : Eqm p a b → Eqm p b a := fun ⟨c, h⟩ => ⟨-c, by grind⟩
theorem Eqm.trans {p a b c : Int} : Eqm p a b → Eqm p b c → Eqm p a c := fun ⟨x, h⟩ ⟨y, g⟩ => ⟨x + y, by grind⟩
theorem Eqm.add {p a b c d : Int} : Eqm p a b → Eqm p c d → Eqm p (a + c) (b + d) := fun ⟨x, h⟩ ⟨y, g⟩ => ⟨x + y, by grind⟩
theorem Eqm.sub {p a b c d : Int} : Eqm p a b → Eqm p c d → Eqm p (a - c) (b - d) := fun ⟨x, h⟩ ⟨y, g⟩ => ⟨x - y, by grind⟩
theorem Eqm.mul {p a b c d : Int} : Eqm p a b → Eqm p c d → Eqm p (a * c) (b * d) := fun ⟨x, h⟩ ⟨y, g⟩ => ⟨b * y + x * d + p * x * y, by grind⟩
theorem Eqm.pow {p a b : Int} (h : Eqm p a b) (n : Nat) : Eqm p (a ^ n) (b ^ n) := by
  induction n with
  | zero => rw [Int.pow_zero, Int.pow_zero]; exact Eqm.refl _ _
  | succ n ih => rw [Int.pow_succ, Int.pow_succ]; exact ih.mul h
theorem Eqm.sm {p : Int} {n : Nat} {f g : Nat → Int} (h : ∀ i, i < n → Eqm p (f i) (g i)) : Eqm p (sm n f) (sm n g) := by
  induction n with
  | zero => exact Eqm.refl _ _
  | succ n ih => rw [sm_succ, sm_succ]; exact (ih fun i hi => h i (by omega)).add (h n (by omega))
theorem Eqm.mod (p a : Int) : Eqm p (a % p) a := ⟨-(a / p), by have := Int.emod_add_mul_ediv a p; grind⟩
theorem Eqm.emod {p a b : Int} (h : Eqm p a b) : a % p = b % p := by obtain ⟨c, rfl⟩ := h; rw [Int.add_mul_emod_self_left]
theorem Eqm.of_emod {p a b : Int} (h : a % p = b % p) : Eqm p a b := ((Eqm.mod p a).symm.trans (Eqm.of_eq h)).trans (Eqm.mod p b)
/-- Two naturals below p that are alike are the same. -/
theorem Eqm.eq {p a b : Nat} (h : Eqm (p : Int) (a : Int) (b : Int)) (ha : a < p) (hb : b < p) : a = b := by
  have := h.emod
  rw [Int.emod_eq_of_lt (by omega) (by omega), Int.emod_eq_of_lt (by omega) (by omega)] at this
  omega
theorem Eqm.nat_mod (p a : Nat) : Eqm (p : Int) ((a % p : Nat) : Int) (a : Int) := by
  rw [Int.natCast_emod]; exact Eqm.mod _ _
theorem Eqm.nat_eq {p a b : Nat} (h : Eqm (p : Int) (a : Int) (b : Int)) : a % p = b % p := by
  have := h.emod
  omega
/-- What is alike times a number that has an inverse is alike. -/
theorem Eqm.cancel {p a b u v : Int} (hu : Eqm p (u * v) 1) (h : Eqm p (a * u) (b * u)) : Eqm p a b := by
  have h1 : Eqm p (a * u * v) (b * u * v) := h.mul (Eqm.refl _ v)
  have h2 : Eqm p (a * u * v) a := by have := (Eqm.refl p a).mul hu; rw [Int.mul_one, ← Int.mul_assoc] at this; exact this
  have h3 : Eqm p (b * u * v) b := by have := (Eqm.refl p b).mul hu; rw [Int.mul_one, ← Int.mul_assoc] at this; exact this
  exact h2.symm.trans (h1.trans h3)

/-- The lowest s bits of b, turned round. -/
def rev : Nat → Nat → Nat
  | 0, _ => 0
  | s + 1, b => rev s (b / 2) + b % 2 * 2 ^ s
theorem rev_lt (s b : Nat) : rev s b < 2 ^ s := by
  induction s generalizing b with
  | zero => simp [rev]
  | succ s ih => have := ih (b / 2); simp only [rev, Nat.pow_succ]; have : b % 2 < 2 := Nat.mod_lt _ (by decide); rcases (show b % 2 = 0 ∨ b % 2 = 1 by omega) with e | e <;> rw [e] <;> omega
/-- The other way to say it: the bit ahead comes to be the lowest one. -/
theorem rev_succ (s b : Nat) : rev (s + 1) b = 2 * rev s b + b / 2 ^ s % 2 := by
  induction s generalizing b with
  | zero => simp [rev]
  | succ s ih =>
    rw [rev, ih (b / 2)]
    show _ = 2 * (rev s (b / 2) + b % 2 * 2 ^ s) + _
    rw [Nat.div_div_eq_div_mul, ← Nat.pow_succ', Nat.pow_succ]
    generalize b / (2 ^ s * 2) % 2 = x
    rcases (show b % 2 = 0 ∨ b % 2 = 1 by omega) with e | e <;> rw [e] <;> omega
theorem rev_low (s b _h : Nat) (hb : b < 2 ^ s) : rev (s + 1) b = 2 * rev s b := by
  rw [rev_succ, Nat.div_eq_of_lt hb]; omega
theorem rev_mod (s b c : Nat) : rev s (b + 2 ^ s * c) = rev s b := by
  induction s generalizing b c with
  | zero => rfl
  | succ s ih =>
    have e1 : (b + 2 ^ (s + 1) * c) / 2 = b / 2 + 2 ^ s * c := by rw [Nat.pow_succ', Nat.mul_assoc]; omega
    have e2 : (b + 2 ^ (s + 1) * c) % 2 = b % 2 := by rw [Nat.pow_succ', Nat.mul_assoc]; omega
    rw [rev, rev, e1, e2, ih]
theorem rev_high (s b : Nat) (hb : b < 2 ^ s) : rev (s + 1) (2 ^ s + b) = 2 * rev s b + 1 := by
  rw [rev_succ, show 2 ^ s + b = b + 2 ^ s * 1 by omega, rev_mod, Nat.add_mul_div_left _ _ (Nat.two_pow_pos s), Nat.div_eq_of_lt hb]
theorem rev_even (s b : Nat) : rev (s + 1) (2 * b) = rev s b := by
  rw [rev, show 2 * b / 2 = b by omega, show 2 * b % 2 = 0 by omega]; omega
theorem rev_odd (s b : Nat) : rev (s + 1) (2 * b + 1) = rev s b + 2 ^ s := by
  rw [rev, show (2 * b + 1) / 2 = b by omega, show (2 * b + 1) % 2 = 1 by omega]; omega
theorem rev_rev (s b : Nat) (h : b < 2 ^ s) : rev s (rev s b) = b := by
  induction s generalizing b with
  | zero => simp [rev] at *; omega
  | succ s ih =>
    rw [Nat.pow_succ] at h
    rcases (show b = 2 * (b / 2) ∨ b = 2 * (b / 2) + 1 by omega) with e | e
    · rw [e, rev_even, rev_low _ _ 0 (rev_lt _ _), ih _ (by omega)]
    · rw [e, rev_odd, Nat.add_comm (rev s (b / 2)), rev_high _ _ (rev_lt _ _), ih _ (by omega)]
/-- A sum over turned places. -/
theorem sm_rev (s : Nat) (g : Nat → Int) : sm (2 ^ s) (fun t => g (rev s t)) = sm (2 ^ s) g := by
  induction s generalizing g with
  | zero => simp [sm_one, rev]
  | succ s ih =>
    rw [Nat.pow_succ', sm_two, sm_pairs, ← ih fun q => g (2 * q) + g (2 * q + 1)]
    exact sm_congr fun t ht => by rw [rev_low _ _ 0 ht, rev_high _ _ ht]

theorem pow_even {p u : Int} {n : Nat} (h : Eqm p (u ^ n) 1) (t : Nat) : Eqm p (u ^ (n * t)) 1 := by
  rw [Int.pow_mul]; have := h.pow t; rwa [Int.one_pow] at this
end Go.Proofs.YtigdflfhepelaaaGreatDoor
/- Numbers modulo a prime, times 2^32, as Montgomery has them. -/
namespace Go.Proofs.YtigdflfhepelaaaGreatDoor
open Go.RowKit
set_option linter.unusedVariables false
set_option maxHeartbeats 400000

/-- A prime and what goes with it. -/
structure Fd where
  p : Nat
  root : Nat
  neg : Nat
  square : Nat
  ahead : Nat
  ri : Nat
/-- The record as the program has it. -/
abbrev Fd.V (f : Fd) : Value := .agg #[.int .u32 (f.p : Int), .int .u32 (f.root : Int), .int .u32 (f.neg : Int), .int .u32 (f.square : Int), .int .u32 (f.ahead : Int)]
structure Good (f : Fd) : Prop where
  p0 : 1 < f.p
  p1 : f.p < 1073741824
  n1 : f.neg < 4294967296
  neg : (f.neg * f.p + 1) % 4294967296 = 0
  ri : f.ri * 4294967296 % f.p = 1
  rb : f.root < f.p
  sb : f.square < f.p
  sq : f.square = 4294967296 * 4294967296 % f.p
  ab : f.ahead < f.p
/-- The product as it is told. -/
def mm (f : Fd) (x y : Nat) : Nat := x * y * f.ri % f.p

theorem mont_div (Z n p : Nat) (hn : (n * p + 1) % 4294967296 = 0) : (Z + Z % 4294967296 * n % 4294967296 * p) % 4294967296 = 0 := by
  have h1 : (Z + Z % 4294967296 * n % 4294967296 * p) % 4294967296 = (Z * (n * p + 1)) % 4294967296 := by
    rw [Nat.mul_add, Nat.mul_one, Nat.add_mod, Nat.mul_mod (Z % 4294967296 * n % 4294967296), Nat.mod_mod, ← Nat.mul_mod, Nat.mul_assoc, Nat.mul_mod (Z % 4294967296), Nat.mod_mod, ← Nat.mul_mod, ← Nat.add_mod, Nat.add_comm]
  rw [h1, Nat.mul_mod, hn, Nat.mul_zero, Nat.zero_mod]
/-- What the program reckons, before it takes p away or not. -/
def mt (f : Fd) (Z : Nat) : Nat := (Z + Z % 4294967296 * f.neg % 4294967296 * f.p) / 4294967296
theorem mt_eq (f : Fd) (hf : Good f) (Z : Nat) : mt f Z * 4294967296 = Z + Z % 4294967296 * f.neg % 4294967296 * f.p := by
  have := mont_div Z f.neg f.p hf.neg
  unfold mt; omega
theorem mt_mod (f : Fd) (hf : Good f) (Z : Nat) : mt f Z % f.p = Z * f.ri % f.p := by
  have h1 : mt f Z * 4294967296 % f.p = Z % f.p := by rw [mt_eq f hf, Nat.add_mul_mod_self_right]
  have h2 : mt f Z * 4294967296 * f.ri % f.p = Z * f.ri % f.p := by rw [Nat.mul_mod, h1, ← Nat.mul_mod]
  rw [← h2, Nat.mul_assoc, Nat.mul_comm 4294967296, Nat.mul_mod, hf.ri, Nat.mul_one, Nat.mod_mod]
theorem mt_lt (f : Fd) (hf : Good f) (Z : Nat) (hZ : Z < 4294967296 * f.p) : mt f Z < 2 * f.p := by
  have h1 := mt_eq f hf Z
  have h2 : Z % 4294967296 * f.neg % 4294967296 * f.p ≤ 4294967295 * f.p := Nat.mul_le_mul_right _ (by omega)
  have := hf.p0
  omega
theorem mm_of_lt (f : Fd) (hf : Good f) (x y : Nat) (h : mt f (x * y) < f.p) : mm f x y = mt f (x * y) := by
  have := mt_mod f hf (x * y)
  rw [Nat.mod_eq_of_lt h] at this
  exact this.symm
theorem mm_of_ge (f : Fd) (hf : Good f) (x y : Nat) (hZ : x * y < 4294967296 * f.p) (h : f.p ≤ mt f (x * y)) : mm f x y = mt f (x * y) - f.p := by
  have h1 := mt_mod f hf (x * y)
  have h2 := mt_lt f hf _ hZ
  rw [Nat.mod_eq_sub_mod h, Nat.mod_eq_of_lt (by omega)] at h1
  exact h1.symm
theorem mm_lt (f : Fd) (hf : Good f) (x y : Nat) : mm f x y < f.p := Nat.mod_lt _ (by have := hf.p0; omega)

theorem mul_calls (w : World) (f : Fd) (hf : Good f) (x y : Nat) (hx : x < 4294967296) (hy : y < 4294967296) (hxy : x * y < 4294967296 * f.p) :
    Calls Tryz.prog 134 #[f.V, .int .u32 (x : Nat), .int .u32 (y : Nat)] w fun e w' => e = .returned (.int .u32 (mm f x y : Nat)) ∧ Ext w w' := by
  have p0 := hf.p0
  have p1 := hf.p1
  have n1 := hf.n1
  obtain ⟨Z, hZ⟩ : ∃ Z, x * y = Z := ⟨_, rfl⟩
  rw [hZ] at hxy
  have hz : (x : Int) * (y : Int) = (Z : Int) := by rw [← hZ, Int.natCast_mul]
  have H1 := Lib.hid (mm_of_lt f hf x y)
  have H2 := Lib.hid (fun h => mm_of_ge f hf x y (by rw [hZ]; exact hxy) h)
  rw [hZ] at H1 H2
  have hT := mt_lt f hf Z hxy
  have hv : IntKind.u64.wrap ((Z : Int) + IntKind.u64.wrap ((Z : Int) % 4294967296 * (f.neg : Int) % 4294967296 * (f.p : Int))) / 4294967296 = ((mt f Z : Nat) : Int) := by
    have hm : Z % 4294967296 * f.neg % 4294967296 < 4294967296 := Nat.mod_lt _ (by decide)
    have hq : Z % 4294967296 * f.neg % 4294967296 * f.p ≤ 4294967295 * f.p := Nat.mul_le_mul_right _ (by omega)
    have e1 : (Z : Int) % 4294967296 * (f.neg : Int) % 4294967296 * (f.p : Int) = ((Z % 4294967296 * f.neg % 4294967296 * f.p : Nat) : Int) := by
      rw [Int.natCast_mul, Int.natCast_emod, Int.natCast_mul, Int.natCast_emod]; rfl
    rw [e1]
    unfold mt
    generalize Z % 4294967296 * f.neg % 4294967296 * f.p = Q at *
    rw [IntKind.wrap_u64, IntKind.wrap_u64]
    omega
  generalize mt f Z = T at *
  have hZb : Z < 4611686018427387904 := by omega
  clear hZ hxy
  rcases Nat.lt_or_ge T f.p with h | h
  · have HF := Lib.hid (H1.out h)
    clear H1 H2
    unfold Fd.V
    go_enter Tryz.func134, Tryz.ntmps134
    go_wp2
    go_ret
    exact ⟨ret_int (by rw [HF.out]), (Ext.refl w).alloc _⟩
  · have HF := Lib.hid (H2.out h)
    clear H1 H2
    unfold Fd.V
    go_enter Tryz.func134, Tryz.ntmps134
    go_wp2
    go_ret
    exact ⟨ret_int (by rw [HF.out]; omega), (Ext.refl w).alloc _⟩

/-- Sum and difference, as they are told. -/
theorem add_calls (w : World) (f : Fd) (hf : Good f) (x y : Nat) (hx : x < f.p) (hy : y < f.p) :
    Calls Tryz.prog 147 #[f.V, .int .u32 (x : Nat), .int .u32 (y : Nat)] w fun e w' => e = .returned (.int .u32 ((x + y) % f.p : Nat)) ∧ Ext w w' := by
  have p0 := hf.p0
  have p1 := hf.p1
  rcases Nat.lt_or_ge (x + y) f.p with h | h
  · have HF := Lib.hid (Nat.mod_eq_of_lt h)
    unfold Fd.V
    go_enter Tryz.func147, Tryz.ntmps147
    go_wp2
    go_ret
    exact ⟨ret_int (by rw [HF.out]; omega), (Ext.refl w).alloc _⟩
  · have HF : Hid ((x + y) % f.p = x + y - f.p) := by rw [Hid, Nat.mod_eq_sub_mod h, Nat.mod_eq_of_lt (by omega)]
    unfold Fd.V
    go_enter Tryz.func147, Tryz.ntmps147
    go_wp2
    go_ret
    exact ⟨ret_int (by rw [HF.out]; omega), (Ext.refl w).alloc _⟩
theorem sub_calls (w : World) (f : Fd) (hf : Good f) (x y : Nat) (hx : x < f.p) (hy : y < f.p) :
    Calls Tryz.prog 139 #[f.V, .int .u32 (x : Nat), .int .u32 (y : Nat)] w fun e w' => e = .returned (.int .u32 ((x + f.p - y) % f.p : Nat)) ∧ Ext w w' := by
  have p0 := hf.p0
  have p1 := hf.p1
  rcases Nat.lt_or_ge x y with h | h
  · have HF : Hid ((x + f.p - y) % f.p = x + f.p - y) := Nat.mod_eq_of_lt (by omega)
    have hw : IntKind.u32.wrap (((x : Int) - (y : Int)) % 4294967296 + (f.p : Int)) = ((x + f.p - y : Nat) : Int) := by rw [IntKind.wrap_u32]; omega
    unfold Fd.V
    go_enter Tryz.func139, Tryz.ntmps139
    go_wp2
    go_ret
    exact ⟨ret_int (by rw [HF.out]), (Ext.refl w).alloc _⟩
  · have HF : Hid ((x + f.p - y) % f.p = x - y) := by rw [Hid, Nat.mod_eq_sub_mod (by omega), Nat.mod_eq_of_lt (by omega)]; omega
    unfold Fd.V
    go_enter Tryz.func139, Tryz.ntmps139
    go_wp2
    go_ret
    exact ⟨ret_int (by rw [HF.out]; omega), (Ext.refl w).alloc _⟩
/-- x times 2^32. -/
def mont (f : Fd) (x : Nat) : Nat := x * 4294967296 % f.p
theorem mont_lt (f : Fd) (hf : Good f) (x : Nat) : mont f x < f.p := Nat.mod_lt _ (by have := hf.p0; omega)
theorem mul_mod2 (a b p : Nat) : a % p * b % p = a * b % p := by rw [Nat.mul_mod, Nat.mod_mod, ← Nat.mul_mod]
theorem mm_mont (f : Fd) (hf : Good f) (x y : Nat) : mm f (mont f x) y = x * y % f.p := by
  unfold mm mont
  rw [Nat.mul_assoc, mul_mod2, show x * 4294967296 * (y * f.ri) = f.ri * 4294967296 * (x * y) by grind, ← mul_mod2, hf.ri, Nat.one_mul]
theorem mm_comm (f : Fd) (x y : Nat) : mm f x y = mm f y x := by unfold mm; rw [Nat.mul_comm x]
theorem mm_mont2 (f : Fd) (hf : Good f) (x y : Nat) : mm f (mont f x) (mont f y) = mont f (x * y) := by
  rw [mm_mont f hf]; unfold mont; rw [Nat.mul_comm, mul_mod2, Nat.mul_comm, ← Nat.mul_assoc]
theorem mont_mod (f : Fd) (x : Nat) : mont f (x % f.p) = mont f x := by unfold mont; rw [mul_mod2]
theorem mm_square (f : Fd) (hf : Good f) (x : Nat) : mm f x f.square = mont f x := by
  rw [mm_comm, hf.sq]
  rw [show 4294967296 * 4294967296 % f.p = mont f 4294967296 from rfl, mm_mont f hf]
  unfold mont; rw [Nat.mul_comm]
theorem mm_one (f : Fd) (hf : Good f) (x : Nat) : mm f (mont f x) 1 = x % f.p := by rw [mm_mont f hf, Nat.mul_one]
theorem lt_prod {x y p : Nat} (hx : x < 4294967296) (hy : y < p) : x * y < 4294967296 * p := by
  have h1 : x * y ≤ x * p := Nat.mul_le_mul_left _ (by omega)
  have h2 : x * p < 4294967296 * p := Nat.mul_lt_mul_of_pos_right hx (by omega)
  omega
theorem in_calls (w : World) (f : Fd) (hf : Good f) (x : Nat) (hx : x < 4294967296) :
    Calls Tryz.prog 132 #[f.V, .int .u32 (x : Nat)] w fun e w' => e = .returned (.int .u32 (mont f x : Nat)) ∧ Ext w w' := by
  have p1 := hf.p1
  have sb := hf.sb
  have HM := Lib.hid (mm_square f hf x)
  have hc := mul_calls (w.alloc (.cells #[.int .u32 (f.p : Int), .int .u32 (f.root : Int), .int .u32 (f.neg : Int), .int .u32 (f.square : Int), .int .u32 (f.ahead : Int)] 137)) f hf x f.square hx (by omega) (lt_prod hx sb)
  have HC := Lib.hid hc
  clear hc
  unfold Fd.V
  go_enter Tryz.func132, Tryz.ntmps132
  go_wp2_with (fail)
  refine HC.out.mono ?_
  rintro e w1 ⟨rfl, hB⟩
  rw [HM.out]
  go_wp2
  go_ret
  exact ⟨rfl, ((Ext.refl w).alloc _).below hB⟩
theorem out_calls (w : World) (f : Fd) (hf : Good f) (x : Nat) (hx : x < 4294967296) :
    Calls Tryz.prog 137 #[f.V, .int .u32 (x : Nat)] w fun e w' => e = .returned (.int .u32 (mm f x 1 : Nat)) ∧ Ext w w' := by
  have p0 := hf.p0
  have p1 := hf.p1
  have hc := mul_calls (w.alloc (.cells #[.int .u32 (f.p : Int), .int .u32 (f.root : Int), .int .u32 (f.neg : Int), .int .u32 (f.square : Int), .int .u32 (f.ahead : Int)] 137)) f hf x 1 hx (by omega) (lt_prod hx p0)
  have HC := Lib.hid hc
  clear hc
  unfold Fd.V
  go_enter Tryz.func137, Tryz.ntmps137
  go_wp2_with (fail)
  refine HC.out.mono ?_
  rintro e w1 ⟨rfl, hB⟩
  go_wp2
  go_ret
  exact ⟨rfl, ((Ext.refl w).alloc _).below hB⟩
end Go.Proofs.YtigdflfhepelaaaGreatDoor
/- Lengths in bits. -/
namespace Go.Proofs.YtigdflfhepelaaaGreatDoor
open Go.RowKit
set_option linter.unusedVariables false
set_option maxHeartbeats 400000

/-- The least k of which 2^k is above n. -/
def blen (n : Nat) : Nat := if n = 0 then 0 else n.log2 + 1
theorem blen_zero : blen 0 = 0 := rfl
theorem lt_pow_blen (n : Nat) : n < 2 ^ blen n := by
  unfold blen
  split
  · subst_vars; decide
  · exact Nat.lt_log2_self
theorem pow_blen_le {n : Nat} (h : n ≠ 0) : 2 ^ (blen n - 1) ≤ n := by
  unfold blen
  rw [if_neg h, Nat.add_sub_cancel]
  exact Nat.log2_self_le h
theorem blen_pos {n : Nat} (h : n ≠ 0) : 0 < blen n := by unfold blen; rw [if_neg h]; omega
theorem blen_le_of_lt {n k : Nat} (h : n < 2 ^ k) : blen n ≤ k := by
  by_cases h0 : n = 0
  · subst h0; exact Nat.zero_le _
  · have h1 := Nat.lt_of_le_of_lt (pow_blen_le h0) h
    have := (Nat.pow_lt_pow_iff_right (by decide : 1 < 2)).1 h1
    omega
theorem lt_blen_of_le {n k : Nat} (h : 2 ^ k ≤ n) : k < blen n := by
  have h1 := Nat.lt_of_le_of_lt h (lt_pow_blen n)
  exact (Nat.pow_lt_pow_iff_right (by decide : 1 < 2)).1 h1
theorem blen_eq {n k : Nat} (h1 : 2 ^ k ≤ n) (h2 : n < 2 ^ (k + 1)) : blen n = k + 1 := by
  have := lt_blen_of_le h1
  have := blen_le_of_lt h2
  omega
/-- A number's length is that of what lies from bit k on, and k, if anything lies there. -/
theorem blen_shift (n k : Nat) (h : n / 2 ^ k ≠ 0) : blen n = k + blen (n / 2 ^ k) := by
  have hp := blen_pos h
  have h1 := pow_blen_le h
  have h2 := lt_pow_blen (n / 2 ^ k)
  have hk : 0 < 2 ^ k := Nat.two_pow_pos k
  have g1 : 2 ^ (k + blen (n / 2 ^ k) - 1) ≤ n := by
    have : k + blen (n / 2 ^ k) - 1 = (blen (n / 2 ^ k) - 1) + k := by omega
    rw [this, Nat.pow_add]
    exact Nat.le_trans (Nat.mul_le_mul_right _ h1) (Nat.div_mul_le_self n (2 ^ k))
  have g2 : n < 2 ^ (k + blen (n / 2 ^ k)) := by
    rw [Nat.pow_add]
    exact Nat.lt_mul_of_div_lt h2 hk |> fun h => by rwa [Nat.mul_comm] at h
  have a := blen_le_of_lt g2
  have b := lt_blen_of_le g1
  omega

def tab8 : ByteArray := ⟨((List.range 256).map fun n => UInt8.ofNat (blen n)).toArray⟩
theorem tab8_size : tab8.size = 256 := by decide +kernel
theorem tab8_fin : ∀ p : Fin 256, (tab8[p.val]'(by rw [tab8_size]; exact p.isLt)).toNat = blen p.val := by decide +kernel
theorem tab8_eq : (⟨(([0, 1, 2, 2, 3, 3, 3, 3, 4, 4, 4, 4, 4, 4, 4, 4, 5, 5, 5, 5, 5, 5, 5, 5, 5, 5, 5, 5, 5, 5, 5, 5, 6, 6, 6, 6, 6, 6, 6, 6, 6, 6, 6, 6, 6, 6, 6, 6, 6, 6, 6, 6, 6, 6, 6, 6, 6, 6, 6, 6, 6, 6, 6, 6].append [7, 7, 7, 7, 7, 7, 7, 7, 7, 7, 7, 7, 7, 7, 7, 7, 7, 7, 7, 7, 7, 7, 7, 7, 7, 7, 7, 7, 7, 7, 7, 7, 7, 7, 7, 7, 7, 7, 7, 7, 7, 7, 7, 7, 7, 7, 7, 7, 7, 7, 7, 7, 7, 7, 7, 7, 7, 7, 7, 7, 7, 7, 7, 7]).append ([8, 8, 8, 8, 8, 8, 8, 8, 8, 8, 8, 8, 8, 8, 8, 8, 8, 8, 8, 8, 8, 8, 8, 8, 8, 8, 8, 8, 8, 8, 8, 8, 8, 8, 8, 8, 8, 8, 8, 8, 8, 8, 8, 8, 8, 8, 8, 8, 8, 8, 8, 8, 8, 8, 8, 8, 8, 8, 8, 8, 8, 8, 8, 8].append [8, 8, 8, 8, 8, 8, 8, 8, 8, 8, 8, 8, 8, 8, 8, 8, 8, 8, 8, 8, 8, 8, 8, 8, 8, 8, 8, 8, 8, 8, 8, 8, 8, 8, 8, 8, 8, 8, 8, 8, 8, 8, 8, 8, 8, 8, 8, 8, 8, 8, 8, 8, 8, 8, 8, 8, 8, 8, 8, 8, 8, 8, 8, 8])).toArray⟩ : ByteArray) = tab8 := by decide +kernel
theorem idx_tab8 {P : Program} (t : TypeId) (ht : P.underlying t = some .string) (k : IntKind) (i : Nat) (hi : i < 256) (w : World) :
    (Instr.index t (.string tab8) (.int k (i : Int))).run P w = .ok (.int .u8 (blen i : Nat)) w := by
  rw [run_index_string w t tab8 k _ ht, dif_pos ⟨by omega, by rw [tab8_size]; omega⟩]
  have e : ((i : Int)).toNat = i := by omega
  simp only [e]
  rw [tab8_fin ⟨i, hi⟩]

theorem len32_a (w : World) (x : Nat) (h : x < 256) :
    Calls Tryz.prog 97 #[.int .u32 x] w fun e w' => e = .returned (.int .i64 (blen x : Nat)) ∧ w = w' := by
  have h65 : decide ((65536 : Int) ≤ (x : Nat)) = false := by rw [decide_eq_false_iff_not]; omega
  have h256 : decide ((256 : Int) ≤ (x : Nat)) = false := by rw [decide_eq_false_iff_not]; omega
  have HF : Hid (blen x = blen (x % 256)) := by rw [Hid, Nat.mod_eq_of_lt h]
  have hI := fun w => idx_tab8 (P := Tryz.prog) 9 Tryz.underlying9 .u8 (x % 256) (by omega) w
  have hB := blen_le_of_lt (n := x % 256) (k := 8) (by omega)
  have hv : ((x % 256 : Nat) : Int) = (x : Int) % 256 := by omega
  rw [hv] at hI
  clear hv
  generalize blen (x % 256) = b at *
  go_enter Tryz.func97, Tryz.ntmps97
  generalize hT : (ByteArray.mk _ : ByteArray) = T
  have hT2 : T = tab8 := by rw [← hT]; exact tab8_eq
  rw [← hT2] at hI
  clear hT hT2 h
  go_wp2
  go_ret
  exact ⟨by rw [HF.out]; first | rfl | exact ret_int (by omega), rfl⟩

theorem len32_b (w : World) (x : Nat) (h : 256 ≤ x) (h2 : x < 65536) :
    Calls Tryz.prog 97 #[.int .u32 x] w fun e w' => e = .returned (.int .i64 (blen x : Nat)) ∧ w = w' := by
  have h65 : decide ((65536 : Int) ≤ (x : Nat)) = false := by rw [decide_eq_false_iff_not]; omega
  have h256 : decide ((256 : Int) ≤ (x : Nat)) = true := by rw [decide_eq_true_iff]; omega
  have HF : Hid (blen x = 8 + blen (x / 256 % 256)) := by
    rw [Hid, Nat.mod_eq_of_lt (by omega)]; exact blen_shift x 8 (by simp only [Nat.reducePow]; omega)
  have hI := fun w => idx_tab8 (P := Tryz.prog) 9 Tryz.underlying9 .u8 (x / 256 % 256) (by omega) w
  have hB := blen_le_of_lt (n := x / 256 % 256) (k := 8) (by omega)
  have hv : ((x / 256 % 256 : Nat) : Int) = (x : Int) / 256 % 256 := by omega
  rw [hv] at hI
  clear hv
  generalize blen (x / 256 % 256) = b at *
  go_enter Tryz.func97, Tryz.ntmps97
  generalize hT : (ByteArray.mk _ : ByteArray) = T
  have hT2 : T = tab8 := by rw [← hT]; exact tab8_eq
  rw [← hT2] at hI
  clear hT hT2 h h2
  go_wp2
  go_ret
  exact ⟨by rw [HF.out]; first | rfl | exact ret_int (by omega), rfl⟩

theorem len32_c (w : World) (x : Nat) (h : 65536 ≤ x) (h2 : x < 16777216) :
    Calls Tryz.prog 97 #[.int .u32 x] w fun e w' => e = .returned (.int .i64 (blen x : Nat)) ∧ w = w' := by
  have h65 : decide ((65536 : Int) ≤ (x : Nat)) = true := by rw [decide_eq_true_iff]; omega
  have h256 : decide ((256 : Int) ≤ (x : Nat) / 65536) = false := by rw [decide_eq_false_iff_not]; omega
  have HF : Hid (blen x = 16 + blen (x / 65536 % 256)) := by
    rw [Hid, Nat.mod_eq_of_lt (by omega)]; exact blen_shift x 16 (by simp only [Nat.reducePow]; omega)
  have hI := fun w => idx_tab8 (P := Tryz.prog) 9 Tryz.underlying9 .u8 (x / 65536 % 256) (by omega) w
  have hB := blen_le_of_lt (n := x / 65536 % 256) (k := 8) (by omega)
  have hv : ((x / 65536 % 256 : Nat) : Int) = (x : Int) / 65536 % 256 := by omega
  rw [hv] at hI
  clear hv
  generalize blen (x / 65536 % 256) = b at *
  go_enter Tryz.func97, Tryz.ntmps97
  generalize hT : (ByteArray.mk _ : ByteArray) = T
  have hT2 : T = tab8 := by rw [← hT]; exact tab8_eq
  rw [← hT2] at hI
  clear hT hT2 h h2
  go_wp2
  go_ret
  exact ⟨by rw [HF.out]; first | rfl | exact ret_int (by omega), rfl⟩

theorem len32_d (w : World) (x : Nat) (h : 16777216 ≤ x) (h2 : x < 4294967296) :
    Calls Tryz.prog 97 #[.int .u32 x] w fun e w' => e = .returned (.int .i64 (blen x : Nat)) ∧ w = w' := by
  have h65 : decide ((65536 : Int) ≤ (x : Nat)) = true := by rw [decide_eq_true_iff]; omega
  have h256 : decide ((256 : Int) ≤ (x : Nat) / 65536) = true := by rw [decide_eq_true_iff]; omega
  have HF : Hid (blen x = 24 + blen (x / 65536 / 256 % 256)) := by
    rw [Hid, Nat.div_div_eq_div_mul, Nat.mod_eq_of_lt (by omega)]; exact blen_shift x 24 (by simp only [Nat.reducePow]; omega)
  have hI := fun w => idx_tab8 (P := Tryz.prog) 9 Tryz.underlying9 .u8 (x / 65536 / 256 % 256) (by omega) w
  have hB := blen_le_of_lt (n := x / 65536 / 256 % 256) (k := 8) (by omega)
  have hv : ((x / 65536 / 256 % 256 : Nat) : Int) = (x : Int) / 65536 / 256 % 256 := by omega
  rw [hv] at hI
  clear hv
  generalize blen (x / 65536 / 256 % 256) = b at *
  go_enter Tryz.func97, Tryz.ntmps97
  generalize hT : (ByteArray.mk _ : ByteArray) = T
  have hT2 : T = tab8 := by rw [← hT]; exact tab8_eq
  rw [← hT2] at hI
  clear hT hT2 h h2
  go_wp2
  go_ret
  exact ⟨by rw [HF.out]; first | rfl | exact ret_int (by omega), rfl⟩

theorem len32_calls (w : World) (x : Nat) (h : x < 4294967296) :
    Calls Tryz.prog 97 #[.int .u32 x] w fun e w' => e = .returned (.int .i64 (blen x : Nat)) ∧ w = w' := by
  rcases Nat.lt_or_ge x 256 with h1 | h1
  · exact len32_a w x h1
  · rcases Nat.lt_or_ge x 65536 with h2 | h2
    · exact len32_b w x h1 h2
    · rcases Nat.lt_or_ge x 16777216 with h3 | h3
      · exact len32_c w x h2 h3
      · exact len32_d w x h3 h
end Go.Proofs.YtigdflfhepelaaaGreatDoor
/- Powers modulo a prime; roots of 1. -/
namespace Go.Proofs.YtigdflfhepelaaaGreatDoor
open Go.RowKit
set_option linter.unusedVariables false
set_option maxHeartbeats 400000

/-- The record lies in block B. -/
def Bx (w : World) (B : Nat) (f : Fd) : Prop := B < w.heap.size ∧ w.cell? ⟨B, 0, none⟩ = some (.int .u32 (f.p : Int)) ∧ w.cell? ⟨B, 1, none⟩ = some (.int .u32 (f.root : Int)) ∧ w.cell? ⟨B, 2, none⟩ = some (.int .u32 (f.neg : Int)) ∧ w.cell? ⟨B, 3, none⟩ = some (.int .u32 (f.square : Int)) ∧ w.cell? ⟨B, 4, none⟩ = some (.int .u32 (f.ahead : Int))
theorem Bx.below {w w' : World} {B C : Nat} {f : Fd} (h : Bx w B f) (hB : Below C w w') (hc : B < C) : Bx w' B f := by
  obtain ⟨h0, h1, h2, h3, h4, h5⟩ := h
  have hs := hB.size
  have hc := fun o => hB.cell (p := ⟨B, o, none⟩) hc
  exact ⟨by omega, by rw [hc]; exact h1, by rw [hc]; exact h2, by rw [hc]; exact h3, by rw [hc]; exact h4, by rw [hc]; exact h5⟩
theorem Bx.ext {w w' : World} {B : Nat} {f : Fd} (h : Bx w B f) (hB : Ext w w') : Bx w' B f := h.below hB h.1
theorem Bx.new (w : World) (f : Fd) : Bx (w.alloc (.cells #[.int .u32 (f.p : Int), .int .u32 (f.root : Int), .int .u32 (f.neg : Int), .int .u32 (f.square : Int), .int .u32 (f.ahead : Int)] 137)) w.heap.size f := by
  refine ⟨by simp, ?_, ?_, ?_, ?_, ?_⟩ <;> go_simp

theorem keepB {w x y : World} {B : Nat} {f : Fd} (h : (B < x.heap.size ∧ x.cell? ⟨B, 0, none⟩ = some (.int .u32 (f.p : Int)) ∧ x.cell? ⟨B, 1, none⟩ = some (.int .u32 (f.root : Int)) ∧ x.cell? ⟨B, 2, none⟩ = some (.int .u32 (f.neg : Int)) ∧ x.cell? ⟨B, 3, none⟩ = some (.int .u32 (f.square : Int)) ∧ x.cell? ⟨B, 4, none⟩ = some (.int .u32 (f.ahead : Int))) ∧ Ext w x) (hB : Ext x y) :
    (B < y.heap.size ∧ y.cell? ⟨B, 0, none⟩ = some (.int .u32 (f.p : Int)) ∧ y.cell? ⟨B, 1, none⟩ = some (.int .u32 (f.root : Int)) ∧ y.cell? ⟨B, 2, none⟩ = some (.int .u32 (f.neg : Int)) ∧ y.cell? ⟨B, 3, none⟩ = some (.int .u32 (f.square : Int)) ∧ y.cell? ⟨B, 4, none⟩ = some (.int .u32 (f.ahead : Int))) ∧ Ext w y :=
  ⟨Bx.ext (f := f) h.1 hB, h.2.below hB⟩

/-- The power so far, of the bits of n that lie from i on. -/
theorem pow_step (f : Fd) (hf : Good f) (X n i : Nat) :
    (if n / 2 ^ i % 2 = 1 then mm f (mm f (mont f (X ^ (n / 2 ^ (i + 1)))) (mont f (X ^ (n / 2 ^ (i + 1))))) (mont f X) else mm f (mont f (X ^ (n / 2 ^ (i + 1)))) (mont f (X ^ (n / 2 ^ (i + 1))))) = mont f (X ^ (n / 2 ^ i)) := by
  have e : n / 2 ^ i = 2 * (n / 2 ^ (i + 1)) + n / 2 ^ i % 2 := by
    rw [Nat.pow_succ, ← Nat.div_div_eq_div_mul]; omega
  have h2 : n / 2 ^ i % 2 = 0 ∨ n / 2 ^ i % 2 = 1 := by omega
  rw [mm_mont2 f hf, mm_mont2 f hf]
  rcases h2 with h | h
  · rw [if_neg (by omega), ← Nat.pow_add]; congr 2; omega
  · rw [if_pos h, ← Nat.pow_add, ← Nat.pow_succ]; congr 2; omega

theorem pow_calls (w : World) (f : Fd) (hf : Good f) (X n : Nat) (hn : n < 4294967296) :
    Calls Tryz.prog 146 #[f.V, .int .u32 (mont f X : Nat), .int .u32 (n : Nat)] w fun e w' => e = .returned (.int .u32 (mont f (X ^ n) : Nat)) ∧ Ext w w' := by
  have p0 := hf.p0
  have p1 := hf.p1
  have hbl := blen_le_of_lt (n := n) (k := 32) (by simpa using hn)
  have hm1 := mont_lt f hf X
  have HW := Lib.hid (lt_pow_blen n)
  have HX := Bx.new w f
  unfold Fd.V
  go_enter Tryz.func146, Tryz.ntmps146
  go_wp2_with (fail)
  refine (in_calls _ f hf 1 (by decide)).mono ?_
  rintro e w1 ⟨rfl, hB1⟩
  have hE1 := ((Ext.refl w).alloc _).below hB1
  replace HX := HX.ext hB1
  clear hB1
  go_wp2_with (fail)
  refine (len32_calls _ n hn).mono ?_
  rintro e w2 ⟨rfl, rfl⟩
  go_wp2_with (fail)
  go_loopw [7, 8] (fun y i wr => ∃ m : Nat, m ≤ 32 ∧ i = .int .i64 ((m : Int) - 1) ∧ y = .int .u32 (mont f (X ^ (n / 2 ^ m)) : Nat) ∧ Ext w wr ∧ Bx wr w.heap.size f) (fun _ i _ => (intOf i + 1).toNat)
  case atStart => exact ⟨blen n, hbl, rfl, by rw [Nat.div_eq_of_lt HW.out, Nat.pow_zero], hE1, HX⟩
  case round =>
    clear HX hE1
    obtain ⟨m, hm, rfl, rfl, hE, HB⟩ := hrel
    rcases m with _ | k
    · rw [Nat.pow_zero, Nat.div_one]
      go_wp2
      go_ret
      exact ⟨rfl, hE⟩
    · obtain ⟨b0, b1, b2, b3, b4, b5⟩ := id HB
      have hs := pow_step f hf X n k
      have hm2 := mont_lt f hf (X ^ (n / 2 ^ (k + 1)))
      have hq := mm_lt f hf (mont f (X ^ (n / 2 ^ (k + 1)))) (mont f (X ^ (n / 2 ^ (k + 1))))
      have hik : (((k + 1 : Nat) : Int) - 1) = (k : Int) := by omega
      rw [hik]
      clear hik
      generalize mont f (X ^ (n / 2 ^ (k + 1))) = Y at *
      go_wp2_with (fail)
      refine (mul_calls _ f hf Y Y (by omega) (by omega) (lt_prod (by omega) hm2)).mono ?_
      rintro e w2 ⟨rfl, hB2⟩
      obtain ⟨c0, c1, c2, c3, c4, c5⟩ := HB.ext hB2
      generalize mm f Y Y = Z at *
      have hbit : bits .and .u32 ((n : Int) / 2 ^ k) 1 = ((n / 2 ^ k % 2 : Nat) : Int) := by
        rw [show ((n : Int) / 2 ^ k) = ((n / 2 ^ k : Nat) : Int) by rw [Int.natCast_ediv, Int.natCast_pow]; rfl]
        rw [show (1 : Int) = ((1 : Nat) : Int) from rfl, u32_and_nat _ _ (Nat.lt_of_le_of_lt (Nat.div_le_self _ _) hn) (by decide), nat_mask1]
      by_cases h : n / 2 ^ k % 2 = 1
      · rw [if_pos h] at hs
        rw [h] at hbit
        have HS := Lib.hid hs
        have ht : (bits .and .u32 ((n : Int) / 2 ^ k) 1 == 1) = true := by rw [hbit]; rfl
        clear h hbit hs
        go_wp2_with (fail)
        refine (mul_calls _ f hf Z (mont f X) (by omega) (by omega) (lt_prod (by omega) hm1)).mono ?_
        rintro e w3 ⟨rfl, hB3⟩
        rw [HS.out]
        have hE3 := (hE.below hB2).below hB3
        have HB3 := (HB.ext hB2).ext hB3
        clear c0 c1 c2 c3 c4 c5 b0 b1 b2 b3 b4 b5
        go_wp2
        go_roundw
        case rel => exact ⟨k, by omega, rfl, rfl, hE3, HB3⟩
        case measure => simp [intOf]
      · rw [if_neg h] at hs
        have HS := Lib.hid hs
        have ht : (bits .and .u32 ((n : Int) / 2 ^ k) 1 == 1) = false := by rw [hbit, beq_eq_false_iff_ne]; omega
        clear h hbit hs
        have hE3 := hE.below hB2
        have HB3 := HB.ext hB2
        clear c0 c1 c2 c3 c4 c5 b0 b1 b2 b3 b4 b5
        go_wp2
        go_roundw
        case rel => exact ⟨k, by omega, rfl, by rw [HS.out], hE3, HB3⟩
        case measure => simp [intOf]

theorem inverse_calls (w : World) (f : Fd) (hf : Good f) (X : Nat) :
    Calls Tryz.prog 148 #[f.V, .int .u32 (mont f X : Nat)] w fun e w' => e = .returned (.int .u32 (mont f (X ^ (f.p - 2)) : Nat)) ∧ Ext w w' := by
  have p0 := hf.p0
  have p1 := hf.p1
  have hw : ((f.p : Int) - 2) % 4294967296 = ((f.p - 2 : Nat) : Int) := by omega
  have hw2 : (f.p : Int) - 2 = ((f.p - 2 : Nat) : Int) := by omega
  have hc := fun w => pow_calls w f hf X (f.p - 2) (by omega)
  generalize f.p - 2 = n at *
  have HC := Lib.hid hc
  clear hc
  unfold Fd.V
  go_enter Tryz.func148, Tryz.ntmps148
  go_wp2_with (fail)
  refine (HC.out _).mono ?_
  rintro e w1 ⟨rfl, hB⟩
  go_wp2
  go_ret
  exact ⟨rfl, ((Ext.refl w).alloc _).below hB⟩

/-- A root of the order 2^k. -/
def rt (f : Fd) (k : Nat) : Nat := f.root ^ ((f.p - 1) / 2 ^ k)
theorem of_calls (w : World) (f : Fd) (hf : Good f) (k : Nat) (hk : k ≤ 20) :
    Calls Tryz.prog 130 #[f.V, .int .i64 (k : Nat)] w fun e w' => e = .returned (.int .u32 (mont f (rt f k) : Nat)) ∧ Ext w w' := by
  have p0 := hf.p0
  have p1 := hf.p1
  have rb := hf.rb
  have hk0 : decide ((k : Int) < 0) = false := by rw [decide_eq_false_iff_not]; omega
  have hc := fun w => pow_calls w f hf f.root ((f.p - 1) / 2 ^ k) (Nat.lt_of_le_of_lt (Nat.div_le_self _ _) (by omega))
  change ∀ w, Calls _ _ _ w fun e w' => e = .returned (.int .u32 (mont f (rt f k) : Nat)) ∧ Ext w w' at hc
  have hwa : IntKind.u32.wrap ((f.p : Int) - 1) = ((f.p - 1 : Nat) : Int) := by rw [IntKind.wrap_u32]; omega
  have hwb : ((f.p : Int) - 1) % 4294967296 = ((f.p - 1 : Nat) : Int) := by omega
  have hwc : (f.p : Int) - 1 = ((f.p - 1 : Nat) : Int) := by omega
  have hwd : ((f.p - 1 : Nat) : Int) / 2 ^ k = (((f.p - 1) / 2 ^ k : Nat) : Int) := by rw [Int.natCast_ediv, Int.natCast_pow]; rfl
  have hwe : IntKind.u32.wrap ((f.p - 1 : Nat) : Int) / 2 ^ k = (((f.p - 1) / 2 ^ k : Nat) : Int) := by rw [IntKind.wrap_u32, ← hwd]; congr 1; omega
  generalize (f.p - 1) / 2 ^ k = n at *
  generalize f.p - 1 = m at *
  have HC := Lib.hid hc
  have HX := Bx.new w f
  clear hc
  unfold Fd.V
  go_enter Tryz.func130, Tryz.ntmps130
  go_wp2_with (fail)
  have hS0 := (show Bx (w.alloc (.cells #[.int .u32 (f.p : Int), .int .u32 (f.root : Int), .int .u32 (f.neg : Int), .int .u32 (f.square : Int), .int .u32 (f.ahead : Int)] 137)).drew w.heap.size f ∧ Ext w (w.alloc (.cells #[.int .u32 (f.p : Int), .int .u32 (f.root : Int), .int .u32 (f.neg : Int), .int .u32 (f.square : Int), .int .u32 (f.ahead : Int)] 137)).drew from ⟨HX, ((Ext.refl w).alloc _).drew⟩)
  go_region_held3 (fun x => (w.heap.size < x.heap.size ∧ x.cell? ⟨w.heap.size, 0, none⟩ = some (.int .u32 (f.p : Int)) ∧ x.cell? ⟨w.heap.size, 1, none⟩ = some (.int .u32 (f.root : Int)) ∧ x.cell? ⟨w.heap.size, 2, none⟩ = some (.int .u32 (f.neg : Int)) ∧ x.cell? ⟨w.heap.size, 3, none⟩ = some (.int .u32 (f.square : Int)) ∧ x.cell? ⟨w.heap.size, 4, none⟩ = some (.int .u32 (f.ahead : Int))) ∧ Ext w x)
    (first
      | exact hS0
      | exact keepB (by assumption) (by assumption))
    (first
      | (go_at_call 132; ((with_reducible refine (in_calls _ f hf f.root (by omega)).mono ?_); rintro e w1 ⟨rfl, hB⟩))
      | (go_at_call 146; ((with_reducible refine (HC.out _).mono ?_); rintro e w1 ⟨rfl, hB⟩)))
  go_wp2
  go_ret
  go_split_ands
  exact ⟨rfl, by assumption⟩

/-- Its inverse. -/
def bt (f : Fd) (k : Nat) : Nat := rt f k ^ (f.p - 2)
theorem backward_calls (w : World) (f : Fd) (hf : Good f) (k : Nat) (hk : k ≤ 20) :
    Calls Tryz.prog 136 #[f.V, .int .i64 (k : Nat)] w fun e w' => e = .returned (.int .u32 (mont f (bt f k) : Nat)) ∧ Ext w w' := by
  have HX := Bx.new w f
  have hS0 := (show Bx (w.alloc (.cells #[.int .u32 (f.p : Int), .int .u32 (f.root : Int), .int .u32 (f.neg : Int), .int .u32 (f.square : Int), .int .u32 (f.ahead : Int)] 137)).drew w.heap.size f ∧ Ext w (w.alloc (.cells #[.int .u32 (f.p : Int), .int .u32 (f.root : Int), .int .u32 (f.neg : Int), .int .u32 (f.square : Int), .int .u32 (f.ahead : Int)] 137)).drew from ⟨HX, ((Ext.refl w).alloc _).drew⟩)
  unfold Fd.V
  go_enter Tryz.func136, Tryz.ntmps136
  go_wp2_with (fail)
  go_region_held3 (fun x => (w.heap.size < x.heap.size ∧ x.cell? ⟨w.heap.size, 0, none⟩ = some (.int .u32 (f.p : Int)) ∧ x.cell? ⟨w.heap.size, 1, none⟩ = some (.int .u32 (f.root : Int)) ∧ x.cell? ⟨w.heap.size, 2, none⟩ = some (.int .u32 (f.neg : Int)) ∧ x.cell? ⟨w.heap.size, 3, none⟩ = some (.int .u32 (f.square : Int)) ∧ x.cell? ⟨w.heap.size, 4, none⟩ = some (.int .u32 (f.ahead : Int))) ∧ Ext w x)
    (first
      | exact hS0
      | exact keepB (by assumption) (by assumption))
    (first
      | (go_at_call 130; ((with_reducible refine (of_calls _ f hf k hk).mono ?_); rintro e w1 ⟨rfl, hB⟩))
      | (go_at_call 148; ((with_reducible refine (inverse_calls _ f hf (rt f k)).mono ?_); rintro e w1 ⟨rfl, hB⟩)))
  go_wp2
  go_ret
  go_split_ands
  exact ⟨rfl, by assumption⟩
/-- What a sum of n numbers is divided by. -/
def sh (f : Fd) (n : Nat) : Nat := n ^ (f.p - 2)
theorem share_calls (w : World) (f : Fd) (hf : Good f) (n : Nat) (hn : n < 4294967296) :
    Calls Tryz.prog 138 #[f.V, .int .i64 (n : Nat)] w fun e w' => e = .returned (.int .u32 (mont f (sh f n) : Nat)) ∧ Ext w w' := by
  have HX := Bx.new w f
  have hS0 := (show Bx (w.alloc (.cells #[.int .u32 (f.p : Int), .int .u32 (f.root : Int), .int .u32 (f.neg : Int), .int .u32 (f.square : Int), .int .u32 (f.ahead : Int)] 137)).drew w.heap.size f ∧ Ext w (w.alloc (.cells #[.int .u32 (f.p : Int), .int .u32 (f.root : Int), .int .u32 (f.neg : Int), .int .u32 (f.square : Int), .int .u32 (f.ahead : Int)] 137)).drew from ⟨HX, ((Ext.refl w).alloc _).drew⟩)
  have hw : IntKind.u32.wrap (n : Int) = (n : Int) := by rw [IntKind.wrap_u32]; omega
  unfold Fd.V
  go_enter Tryz.func138, Tryz.ntmps138
  go_wp2_with (fail)
  go_region_held3 (fun x => (w.heap.size < x.heap.size ∧ x.cell? ⟨w.heap.size, 0, none⟩ = some (.int .u32 (f.p : Int)) ∧ x.cell? ⟨w.heap.size, 1, none⟩ = some (.int .u32 (f.root : Int)) ∧ x.cell? ⟨w.heap.size, 2, none⟩ = some (.int .u32 (f.neg : Int)) ∧ x.cell? ⟨w.heap.size, 3, none⟩ = some (.int .u32 (f.square : Int)) ∧ x.cell? ⟨w.heap.size, 4, none⟩ = some (.int .u32 (f.ahead : Int))) ∧ Ext w x)
    (first
      | exact hS0
      | exact keepB (by assumption) (by assumption))
    (first
      | (go_at_call 132; ((with_reducible refine (in_calls _ f hf n hn).mono ?_); rintro e w1 ⟨rfl, hB⟩))
      | (go_at_call 148; ((with_reducible refine (inverse_calls _ f hf n).mono ?_); rintro e w1 ⟨rfl, hB⟩)))
  go_wp2
  go_ret
  go_split_ands
  exact ⟨rfl, by assumption⟩
end Go.Proofs.YtigdflfhepelaaaGreatDoor
/- The powers of a root that a transform wants. -/
namespace Go.Proofs.YtigdflfhepelaaaGreatDoor
open Go.RowKit
set_option linter.unusedVariables false
set_option maxHeartbeats 400000

/-- From place 2^s on the first 2^s powers of the root of the order 2^(s+1). -/
structure Pw (f : Fd) (k W : Nat) (o : List Nat) : Prop where
  len : o.length = 2 ^ k
  lt : ∀ x ∈ o, x < f.p
  at_ : ∀ s j, s < k → j < 2 ^ s → lb o (2 ^ s + j) = mont f (W ^ (2 ^ (k - 1 - s) * j))
/-- Behind the first j rounds. -/
structure PwUp (f : Fd) (n h W j : Nat) (o : List Nat) : Prop where
  len : o.length = n
  lt : ∀ x ∈ o, x < f.p
  at_ : ∀ i, i < j → lb o (h + i) = mont f (W ^ i)
theorem PwUp.start (f : Fd) (hf : Good f) (n h W : Nat) : PwUp f n h W 0 (List.replicate n 0) :=
  ⟨by simp, fun x hx => by have := hf.p0; simp at hx; omega, fun i hi => by omega⟩
theorem PwUp.step {f : Fd} (hf : Good f) {n h W j : Nat} {o : List Nat} (H : PwUp f n h W j o) (hj : h + j < n) : PwUp f n h W (j + 1) (o.set (h + j) (mont f (W ^ j))) := by
  refine ⟨by simp [H.len], set_lt H.lt (mont_lt f hf _), fun i hi => ?_⟩
  rw [lb_set _ _ _ _ (by rw [H.len]; exact hj)]
  by_cases e : i = j
  · subst e; rw [if_pos rfl]
  · rw [if_neg (by omega)]; exact H.at_ i (by omega)
/-- On the way down, all places above i done. -/
structure PwDn (f : Fd) (n h W i : Nat) (o : List Nat) : Prop where
  up : PwUp f n h W h o
  dn : ∀ m, i < m → m < h → lb o m = lb o (2 * m)
theorem PwDn.step {f : Fd} {n h W i : Nat} {o : List Nat} (H : PwDn f n h W i o) (hi : 0 < i) (hih : i < h) (hn : n = 2 * h) : PwDn f n h W (i - 1) (o.set i (lb o (2 * i))) := by
  have hl := H.up.len
  have hlt : lb o (2 * i) < f.p := by
    have hm : lb o (2 * i) ∈ o := by
      unfold lb; rw [List.getElem?_eq_getElem (by omega)]; exact List.getElem_mem _
    exact H.up.lt _ hm
  refine ⟨⟨by simp [hl], set_lt H.up.lt hlt, fun j hj => ?_⟩, fun m h1 h2 => ?_⟩
  · rw [lb_set _ _ _ _ (by omega), if_neg (by omega)]; exact H.up.at_ j hj
  · rw [lb_set _ _ _ _ (by omega), lb_set _ _ _ _ (by omega), if_neg (show ¬ i = 2 * m by omega)]
    by_cases e : i = m
    · rw [if_pos e, e]
    · rw [if_neg e]; exact H.dn m (by omega) h2
theorem PwDn.done {f : Fd} {k W : Nat} {o : List Nat} (H : PwDn f (2 ^ (k + 1)) (2 ^ k) W 0 o) : Pw f (k + 1) W o := by
  refine ⟨H.up.len, H.up.lt, fun s j hs hj => ?_⟩
  have key : ∀ d s j, s + d = k → j < 2 ^ s → lb o (2 ^ s + j) = mont f (W ^ (2 ^ d * j)) := by
    intro d
    induction d with
    | zero => intro s j hs hj; obtain rfl : s = k := by omega
              rw [H.up.at_ j hj, Nat.pow_zero, Nat.one_mul]
    | succ d ih =>
      intro s j hs hj
      have h1 : 2 ^ s + j < 2 ^ k := by
        have : 2 ^ (s + 1) ≤ 2 ^ k := Nat.pow_le_pow_right (by decide) (by omega)
        rw [Nat.pow_succ] at this; omega
      rw [H.dn _ (by have := Nat.two_pow_pos s; omega) h1, show 2 * (2 ^ s + j) = 2 ^ (s + 1) + 2 * j by rw [Nat.pow_succ]; omega, ih (s + 1) (2 * j) (by omega) (by rw [Nat.pow_succ]; omega)]
      congr 2; rw [Nat.pow_succ, Nat.mul_assoc]
  exact key (k + 1 - 1 - s) s j (by omega) hj
theorem Pw.one (f : Fd) (hf : Good f) (W : Nat) (o : List Nat) (h : o.length = 1) (hl : ∀ x ∈ o, x < f.p) : Pw f 0 W o := ⟨h, hl, fun s j hs _ => by omega⟩

set_option maxRecDepth 100000 in
set_option maxHeartbeats 1600000 in
theorem powers_calls (w : World) (f : Fd) (hf : Good f) (k n W : Nat) (hn : n = 2 ^ k) (hk : k ≤ 20) :
    Calls Tryz.prog 129 #[f.V, .int .i64 (n : Nat), .int .u32 (mont f W : Nat)] w fun e w' => (∃ g o, e = .returned (.slice (some ⟨g, 0, none⟩) o.length o.length) ∧ Pw f k W o ∧ Own w' w.heap.size (.slice (some ⟨g, 0, none⟩) o.length o.length) o) ∧ Ext w w' := by
  have p0 := hf.p0
  have p1 := hf.p1
  have hn1 : n ≤ 1048576 := by rw [hn]; exact Nat.pow_le_pow_right (by decide) hk
  have hn0 : 0 < n := by rw [hn]; exact Nat.two_pow_pos k
  have HX := Bx.new w f
  have hmW := mont_lt f hf W
  obtain ⟨h, hh⟩ : ∃ h, n / 2 = h := ⟨_, rfl⟩
  have hhi : ((n : Nat) : Int) / 2 = (h : Int) := by omega
  have hcase : (k = 0 ∧ n = 1 ∧ h = 0) ∨ (∃ k', k = k' + 1 ∧ h = 2 ^ k' ∧ n = 2 * h) := by
    rcases k with _ | k'
    · rw [Nat.pow_zero] at hn; exact .inl ⟨rfl, hn, by omega⟩
    · rw [Nat.pow_succ] at hn; exact .inr ⟨k', rfl, by omega, by omega⟩
  have hh2 : 2 * h ≤ n := by omega
  have HC := Lib.hid hcase
  have HN := Lib.hid hn
  clear hcase hn hh
  obtain ⟨i0, hi, hz0, hz1, hz2⟩ := info_parts info32
  unfold Fd.V
  go_enter Tryz.func129, Tryz.ntmps129
  go_wp2_with (at_make; refine wpList_make_full _ rfl _ _ 22 rfl (w.heap.size + 1) 46 i0 (.int .u32 0) 1 Tryz.underlying22 hi hz0 hz1 _ _ _ _ n rfl rfl (by omega) (by omega) (by rw [hz2]; omega) (by unfold maxLen; omega) (by simp) ?_; intro w1 hown hgrow; have hY := HX.below ((Below.refl _ _).grown hgrow (Nat.le_refl _) (fun _ h => by cases h)) HX.1; obtain ⟨c0, c1, c2, c3, c4, c5⟩ := id hY)
  have ho0 := Own.zeros hown
  have hB0 : Ext w w1 := ((Ext.refl w).alloc _).grown hgrow (by simp) (fun _ h => by cases h)
  clear hown hgrow
  refine (in_calls _ f hf 1 (by decide)).mono ?_
  rintro e w2 ⟨rfl, hB2⟩
  replace HX := hY.ext hB2
  have hb0 := (Own.block ho0).2
  have ho2 := ho0.below hB2 (fun g hg => by injection hg with hg; subst hg; exact hb0)
  have hE := hB0.below hB2
  obtain ⟨d0, d1, d2, d3, d4, d5⟩ := id HX
  have hNB : w1.heap.size ≤ w2.heap.size := hB2.size
  clear hB2 hB0 ho0 hY c0 c1 c2 c3 c4 c5 hi hz0 hz1 hz2 i0 
  go_wp2_with (fail)
  rw [show ∀ x, (w.alloc x).heap.size = w.heap.size + 1 from fun x => by simp] at ho2
  go_loopw [9, 10, 19] (fun x _ j wr => ∃ (i : Nat) (o : List Nat), i ≤ h ∧ j = .int .i64 i ∧ x = .int .u32 (mont f (W ^ i) : Nat) ∧ Hid (PwUp f n h W i o) ∧ Own wr w.heap.size (.slice (some ⟨w.heap.size + 1, 0, none⟩) o.length n) o ∧ Ext w wr ∧ Bx wr w.heap.size f) (fun _ _ j _ => h - (intOf j).toNat)
  case atStart => exact ⟨0, _, Nat.zero_le _, rfl, by rw [Nat.pow_zero], PwUp.start f hf n h W, Own.base_mono (base' := w.heap.size) ho2 (by omega), hE, HX⟩
  case round =>
    clear ho2 HX d0 d1 d2 d3 d4 d5 hE
    obtain ⟨i, o, hi, rfl, rfl, HO, hown, hE, HX⟩ := hrel
    have hoL := HO.out.len
    by_cases hlt : i < h
    · have hst := HO.out.step hf (j := i) (by omega)
      have hs := hown.set_ (h + i) (mont f (W ^ i))
      have hfr := hown.frozen (h + i)
      have hcl := hown.cell (j := h + i) (by omega)
      have hm2 := mont_lt f hf (W ^ i)
      have hmm : Hid (mm f (mont f (W ^ i)) (mont f W) = mont f (W ^ (i + 1))) := by rw [Hid, mm_mont2 f hf, ← Nat.pow_succ]
      have HST := Lib.hid hst
      have HX2 := HX.below (B := w.heap.size) (C := w.heap.size + 1) ((Below.refl _ wr).setCell (p := ⟨w.heap.size + 1, h + i, none⟩) (by simp) (.int .u32 (mont f (W ^ i) : Nat))) (by omega)
      obtain ⟨c0, c1, c2, c3, c4, c5⟩ := id HX2
      have hE2 : Ext w (wr.setCell ⟨w.heap.size + 1, h + i, none⟩ (.int .u32 (mont f (W ^ i) : Nat))) := hE.setCell (by simp) _
      generalize mont f (W ^ i) = Y at *
      clear hst hown HX HO hoL
      go_wp2_with (fail)
      refine (mul_calls _ f hf Y (mont f W) (by omega) (by omega) (lt_prod (by omega) hmW)).mono ?_
      rintro e w3 ⟨rfl, hB3⟩
      rw [hmm.out]
      have hs3 := hs.below hB3 (fun g hg => by injection hg with hg; subst hg; exact (Own.block hs).2)
      have hE3 := hE2.below hB3
      have HX3 := HX2.ext hB3
      clear c0 c1 c2 c3 c4 c5 hs HX2 hE2 hB3 hcl hfr hE
      go_wp2_with (fail)
      go_roundw
      case rel => exact ⟨i + 1, _, by omega, by go_num, rfl, HST.out, hs3, hE3, HX3⟩
      case measure => simp [intOf]; omega
    · obtain rfl : i = h := by omega
      clear hlt hi
      go_wp2_with (fail)
      have HD : Hid (PwDn f n i W (i - 1) o) := ⟨HO.out, fun m h1 h2 => by omega⟩
      clear HO hoL HX
      go_loopw [11] (fun j wr => ∃ (m : Nat) (o : List Nat), m ≤ i ∧ j = .int .i64 ((m : Int) - 1) ∧ Hid (PwDn f n i W (m - 1) o) ∧ Own wr w.heap.size (.slice (some ⟨w.heap.size + 1, 0, none⟩) o.length n) o ∧ Ext w wr) (fun j _ => (intOf j + 1).toNat)
      case atStart => exact ⟨i, o, Nat.le_refl _, rfl, HD, hown, hE⟩
      case round =>
        clear HD hown hE
        obtain ⟨m, o, hm, rfl, HD, hown, hE⟩ := hrel
        have hoL := HD.out.up.len
        by_cases hlt : 2 ≤ m
        · obtain ⟨q, rfl⟩ : ∃ q, m = q + 1 := ⟨m - 1, by omega⟩
          have HDn := Lib.hid (HD.out.step (by omega) (by omega) (by rcases HC.out with ⟨_, _, h⟩ | ⟨_, _, _, h⟩ <;> omega))
          rw [Nat.add_sub_cancel] at HDn
          have hqq : (((q + 1 : Nat) : Int) - 1) = (q : Int) := by omega
          rw [hqq]
          have hs := hown.set_ q (lb o (2 * q))
          have hfr := hown.frozen q
          have hcl := hown.cell (j := q) (by omega)
          have hcl2 := hown.cell (j := 2 * q) (by omega)
          have hE2 : Ext w (wr.setCell ⟨w.heap.size + 1, q, none⟩ (.int .u32 (lb o (2 * q) : Nat))) := hE.setCell (by simp) _
          have hv : lb o (2 * q) < 4294967296 := Nat.lt_of_lt_of_le (lb_lt_of (by omega) HD.out.up.lt _) (by omega)
          generalize lb o (2 * q) = Y at *
          clear HD hoL hown hqq
          go_wp2_with (fail)
          go_roundw
          case rel => exact ⟨q, _, by omega, rfl, HDn.out, hs, hE2⟩
          case measure => simp [intOf]
        · have HP : Hid (Pw f k W o) := by
            have e : m - 1 = 0 := by omega
            rw [e] at HD
            rcases HC.out with ⟨h1, h2, h3⟩ | ⟨k', h1, h2, h3⟩
            · subst h1; exact Pw.one f hf W o (by omega) HD.out.up.lt
            · subst h1; subst h2; exact PwDn.done (by have := HD.out; rwa [h3, ← Nat.pow_succ'] at this)
          have hon : o.length = n := hoL
          rw [hon] at hown
          have HF : Hid (∃ g o', (Value.slice (some ⟨w.heap.size + 1, 0, none⟩) n n) = .slice (some ⟨g, 0, none⟩) o'.length o'.length ∧ Pw f k W o' ∧ Own wr w.heap.size (.slice (some ⟨g, 0, none⟩) o'.length o'.length) o') := ⟨_, o, by rw [hon], HP.out, by rw [hon]; exact hown⟩
          clear HP HD hoL hon hown
          go_wp2_with (fail)
          obtain ⟨g, o', h1, h2, h3⟩ := HF.out
          go_ret
          exact ⟨⟨g, o', by rw [← h1]; rfl, h2, h3⟩, hE⟩
end Go.Proofs.YtigdflfhepelaaaGreatDoor
/- Transforms by halves, downward and upward, and what they undo. -/
namespace Go.Proofs.YtigdflfhepelaaaGreatDoor

/-- w is a root of 1 of the order 2^k modulo p. -/
def Rt (p w : Int) (k : Nat) : Prop := Eqm p (w ^ 2 ^ k) 1 ∧ (0 < k → Eqm p (w ^ 2 ^ (k - 1)) (-1))

/-- What stands in place q of the transform of l. -/
def dft (w : Int) (n : Nat) (l : Nat → Int) (q : Nat) : Int := sm n fun i => l i * w ^ (i * q)

/-- Blocks of 2^s numbers each, on the way down. -/
def Down (p w : Int) (k s : Nat) (l o : Nat → Int) : Prop :=
  s ≤ k ∧ ∀ b t, b < 2 ^ (k - s) → t < 2 ^ s → Eqm p (sm (2 ^ s) fun j => o (b * 2 ^ s + j) * w ^ (2 ^ (k - s) * (j * t))) (dft w (2 ^ k) l (rev (k - s) b + 2 ^ (k - s) * t))

theorem Down.start (p w : Int) (k : Nat) (l : Nat → Int) : Down p w k k l l := by
  refine ⟨Nat.le_refl _, fun b t hb ht => Eqm.of_eq ?_⟩
  rw [Nat.sub_self] at hb ⊢
  obtain rfl : b = 0 := by simpa using hb
  simp only [rev, dft, Nat.pow_zero, Nat.one_mul, Nat.zero_add, Nat.zero_mul]

theorem pow_mul_one {p w : Int} {m : Nat} (h : Eqm p (w ^ m) 1) (x t : Nat) : Eqm p (w ^ (x + m * t)) (w ^ x) := by
  have := (Eqm.refl p (w ^ x)).mul (pow_even h t)
  rwa [Int.mul_one, ← Int.pow_add] at this

theorem Down.step {p w : Int} {k s : Nat} {l o o' : Nat → Int} (hr : Rt p w k) (h : Down p w k (s + 1) l o)
    (h0 : ∀ b j, b < 2 ^ (k - (s + 1)) → j < 2 ^ s → Eqm p (o' (b * 2 ^ (s + 1) + j)) (o (b * 2 ^ (s + 1) + j) + o (b * 2 ^ (s + 1) + 2 ^ s + j)))
    (h1 : ∀ b j, b < 2 ^ (k - (s + 1)) → j < 2 ^ s → Eqm p (o' (b * 2 ^ (s + 1) + 2 ^ s + j)) ((o (b * 2 ^ (s + 1) + j) - o (b * 2 ^ (s + 1) + 2 ^ s + j)) * w ^ (2 ^ (k - (s + 1)) * j))) :
    Down p w k s l o' := by
  obtain ⟨hsk, hd⟩ := h
  have ek : k - s = k - (s + 1) + 1 := by omega
  refine ⟨by omega, fun b t hb ht => ?_⟩
  rw [ek] at hb ⊢
  have hm : 2 ^ (k - (s + 1) + 1) = 2 * 2 ^ (k - (s + 1)) := Nat.pow_succ'
  have hkk : 2 ^ (k - (s + 1)) * 2 ^ s * 2 = 2 ^ k := by rw [← Nat.pow_add, ← Nat.pow_succ]; congr 1; omega
  have hone : Eqm p (w ^ (2 ^ (k - (s + 1)) * 2 ^ s * 2)) 1 := by rw [hkk]; exact hr.1
  have hneg : Eqm p (w ^ (2 ^ (k - (s + 1)) * 2 ^ s)) (-1) := by
    have := hr.2 (by omega)
    rwa [show 2 ^ (k - 1) = 2 ^ (k - (s + 1)) * 2 ^ s by rw [← Nat.pow_add]; congr 1; omega] at this
  have hs2 : 2 ^ (s + 1) = 2 * 2 ^ s := Nat.pow_succ'
  generalize hM : 2 ^ (k - (s + 1)) = M at *
  rw [hm] at hb ⊢
  rcases (show b = 2 * (b / 2) ∨ b = 2 * (b / 2) + 1 by omega) with e | e
  · generalize b / 2 = c at e
    subst e
    have g := hd c (2 * t) (by omega) (by omega)
    rw [hs2, sm_two] at g
    rw [rev_even, show 2 * M * t = M * (2 * t) by rw [Nat.mul_comm 2 M, Nat.mul_assoc]]
    refine Eqm.trans (Eqm.sm fun j hj => ?_) g
    have a := h0 c j (by omega) hj
    rw [hs2] at a
    rw [show 2 * c * 2 ^ s + j = c * (2 * 2 ^ s) + j by rw [Nat.mul_comm 2 c, Nat.mul_assoc]]
    refine (a.mul (Eqm.refl p _)).trans ?_
    rw [Int.add_mul]
    refine Eqm.add (Eqm.of_eq (by congr 2; grind)) ?_
    rw [← Nat.add_assoc]
    refine (Eqm.refl p _).mul ?_
    have := (pow_mul_one hone (M * (j * (2 * t))) t).symm
    rw [show 2 * M * (j * t) = M * (j * (2 * t)) by grind]
    rwa [show M * (j * (2 * t)) + M * 2 ^ s * 2 * t = M * ((2 ^ s + j) * (2 * t)) by grind] at this
  · generalize b / 2 = c at e
    subst e
    have g := hd c (2 * t + 1) (by omega) (by omega)
    rw [hs2, sm_two] at g
    rw [rev_odd, hM, show rev (k - (s + 1)) c + M + 2 * M * t = rev (k - (s + 1)) c + M * (2 * t + 1) by grind]
    refine Eqm.trans (Eqm.sm fun j hj => ?_) g
    have a := h1 c j (by omega) hj
    rw [hs2] at a
    rw [show (2 * c + 1) * 2 ^ s + j = c * (2 * 2 ^ s) + 2 ^ s + j by grind]
    refine (a.mul (Eqm.refl p _)).trans ?_
    rw [Int.mul_assoc, ← Int.pow_add, Int.sub_mul, Int.sub_eq_add_neg]
    refine Eqm.add (Eqm.of_eq (by congr 2; grind)) ?_
    rw [← Nat.add_assoc]
    have e1 : Eqm p (w ^ (M * ((2 ^ s + j) * (2 * t + 1)))) (-(w ^ (M * j + 2 * M * (j * t)))) := by
      rw [show M * ((2 ^ s + j) * (2 * t + 1)) = M * 2 ^ s + (M * j + 2 * M * (j * t)) + M * 2 ^ s * 2 * t by grind]
      refine (pow_mul_one hone _ t).trans ?_
      rw [Int.pow_add]
      have := hneg.mul (Eqm.refl p (w ^ (M * j + 2 * M * (j * t))))
      rwa [Int.neg_mul, Int.one_mul] at this
    have := (Eqm.refl p (o (c * (2 * 2 ^ s) + 2 ^ s + j))).mul e1
    rw [Int.mul_neg] at this
    exact this.symm

theorem Down.done {p w : Int} {k : Nat} {l o : Nat → Int} (h : Down p w k 0 l o) (b : Nat) (hb : b < 2 ^ k) : Eqm p (o b) (dft w (2 ^ k) l (rev k b)) := by
  have := h.2 b 0 (by simpa using hb) (by simp)
  simpa [sm_one] using this

/-- Blocks of 2^s numbers each, on the way up. -/
def Up (p v : Int) (k s : Nat) (F o : Nat → Int) : Prop :=
  s ≤ k ∧ ∀ b j, b < 2 ^ (k - s) → j < 2 ^ s → Eqm p (o (b * 2 ^ s + j)) (sm (2 ^ s) fun t => F (b * 2 ^ s + t) * v ^ (2 ^ (k - s) * (j * rev s t)))

theorem Up.start (p v : Int) (k : Nat) (F : Nat → Int) : Up p v k 0 F F := by
  refine ⟨Nat.zero_le _, fun b j hb hj => Eqm.of_eq ?_⟩
  obtain rfl : j = 0 := by simpa using hj
  simp [sm_one]

theorem Up.step {p v : Int} {k s : Nat} {F o o' : Nat → Int} (hr : Rt p v k) (hsk : s + 1 ≤ k) (h : Up p v k s F o)
    (h0 : ∀ b j, b < 2 ^ (k - (s + 1)) → j < 2 ^ s → Eqm p (o' (b * 2 ^ (s + 1) + j)) (o (b * 2 ^ (s + 1) + j) + o (b * 2 ^ (s + 1) + 2 ^ s + j) * v ^ (2 ^ (k - (s + 1)) * j)))
    (h1 : ∀ b j, b < 2 ^ (k - (s + 1)) → j < 2 ^ s → Eqm p (o' (b * 2 ^ (s + 1) + 2 ^ s + j)) (o (b * 2 ^ (s + 1) + j) - o (b * 2 ^ (s + 1) + 2 ^ s + j) * v ^ (2 ^ (k - (s + 1)) * j))) :
    Up p v k (s + 1) F o' := by
  obtain ⟨_, hd⟩ := h
  have ek : k - s = k - (s + 1) + 1 := by omega
  refine ⟨by omega, fun b j hb hj => ?_⟩
  rw [ek] at hd
  have hm : 2 ^ (k - (s + 1) + 1) = 2 * 2 ^ (k - (s + 1)) := Nat.pow_succ'
  have hkk : 2 ^ (k - (s + 1)) * 2 ^ s * 2 = 2 ^ k := by rw [← Nat.pow_add, ← Nat.pow_succ]; congr 1; omega
  have hone : Eqm p (v ^ (2 ^ (k - (s + 1)) * 2 ^ s * 2)) 1 := by rw [hkk]; exact hr.1
  have hneg : Eqm p (v ^ (2 ^ (k - (s + 1)) * 2 ^ s)) (-1) := by
    have := hr.2 (by omega)
    rwa [show 2 ^ (k - 1) = 2 ^ (k - (s + 1)) * 2 ^ s by rw [← Nat.pow_add]; congr 1; omega] at this
  have hs2 : 2 ^ (s + 1) = 2 * 2 ^ s := Nat.pow_succ'
  generalize hM : 2 ^ (k - (s + 1)) = M at *
  rw [hm] at hd
  rw [hs2, sm_two]
  have low : ∀ i, i < 2 ^ s → Eqm p (o (b * (2 * 2 ^ s) + i)) (sm (2 ^ s) fun t => F (b * (2 * 2 ^ s) + t) * v ^ (2 * M * (i * rev s t))) := fun i hi => by
    have := hd (2 * b) i (by omega) hi
    rwa [show 2 * b * 2 ^ s = b * (2 * 2 ^ s) by grind] at this
  have high : ∀ i, i < 2 ^ s → Eqm p (o (b * (2 * 2 ^ s) + 2 ^ s + i)) (sm (2 ^ s) fun t => F (b * (2 * 2 ^ s) + 2 ^ s + t) * v ^ (2 * M * (i * rev s t))) := fun i hi => by
    have := hd (2 * b + 1) i (by omega) hi
    rwa [show (2 * b + 1) * 2 ^ s = b * (2 * 2 ^ s) + 2 ^ s by grind] at this
  rw [hs2] at h0 h1 hj
  by_cases hj2 : j < 2 ^ s
  · refine (h0 b j hb hj2).trans ?_
    refine (Eqm.add (low j hj2) ((high j hj2).mul (Eqm.refl p _))).trans (Eqm.of_eq ?_)
    rw [← sm_mul', ← sm_add]
    refine sm_congr fun t ht => ?_
    rw [rev_low _ _ 0 ht, rev_high _ _ ht, Int.mul_assoc, ← Int.pow_add]
    congr 1
    · congr 2; grind
    · rw [Nat.add_assoc]; congr 2; grind
  · obtain ⟨i, rfl⟩ : ∃ i, j = 2 ^ s + i := ⟨j - 2 ^ s, by omega⟩
    have hi : i < 2 ^ s := by omega
    have := (h1 b i hb hi).trans (Eqm.sub (low i hi) ((high i hi).mul (Eqm.refl p _)))
    rw [← Nat.add_assoc]
    refine this.trans ?_
    rw [Int.sub_eq_add_neg, ← Int.mul_neg, ← sm_mul', ← sm_add]
    refine Eqm.sm fun t ht => ?_
    rw [rev_low _ _ 0 ht, rev_high _ _ ht, Int.mul_assoc]
    refine Eqm.add ((Eqm.refl p _).mul ?_) ?_
    · have := (pow_mul_one hone (2 * M * (i * rev s t)) (rev s t)).symm
      rwa [show 2 * M * (i * rev s t) + M * 2 ^ s * 2 * rev s t = M * ((2 ^ s + i) * (2 * rev s t)) by grind] at this
    · rw [← Nat.add_assoc]
      refine (Eqm.refl p _).mul ?_
      rw [show M * ((2 ^ s + i) * (2 * rev s t + 1)) = M * 2 ^ s + (2 * M * (i * rev s t) + M * i) + M * 2 ^ s * 2 * rev s t by grind]
      refine Eqm.trans ?_ (pow_mul_one hone _ _).symm
      rw [Int.pow_add v (M * 2 ^ s)]
      have := (hneg.mul (Eqm.refl p (v ^ (2 * M * (i * rev s t) + M * i)))).symm
      rw [Int.neg_mul, Int.one_mul, Int.pow_add] at this
      rw [Int.mul_neg]
      rw [Int.pow_add]
      exact this

theorem Up.done {p v : Int} {k : Nat} {F o : Nat → Int} (h : Up p v k k F o) (j : Nat) (hj : j < 2 ^ k) : Eqm p (o j) (sm (2 ^ k) fun t => F t * v ^ (j * rev k t)) := by
  have := h.2 0 j (by simp) hj
  simpa using this

/-- Powers of a root of 1 are 0 together, but if it is 1 itself. -/
theorem geo (p w : Int) (k e : Nat) (hr : Rt p w k) (he : ¬ 2 ^ k ∣ e) : Eqm p (sm (2 ^ k) fun q => (w ^ e) ^ q) 0 := by
  induction k generalizing w e with
  | zero => exact absurd (Nat.one_dvd _) he
  | succ k ih =>
    have e1 : sm (2 ^ (k + 1)) (fun q => (w ^ e) ^ q) = (1 + (w ^ e) ^ 2 ^ k) * sm (2 ^ k) (fun q => (w ^ e) ^ q) := by
      rw [Nat.pow_succ', sm_two, ← sm_mul]
      exact sm_congr fun q _ => by rw [Int.pow_add (w ^ e)]; grind
    rw [e1]
    have hn := hr.2 (by omega)
    rw [Nat.add_sub_cancel] at hn
    obtain ⟨c, hc⟩ : ∃ c, e = 2 * c ∨ e = 2 * c + 1 := ⟨e / 2, by omega⟩
    rcases hc with rfl | rfl
    · have e2 : ∀ q, (w ^ (2 * c)) ^ q = ((w ^ 2) ^ c) ^ q := fun q => by rw [Int.pow_mul]
      simp only [e2]
      have := ih (w ^ 2) c ⟨by rw [← Int.pow_mul, ← Nat.pow_succ']; exact hr.1, fun h0 => by rw [← Int.pow_mul, ← Nat.pow_succ']; rwa [show (k - 1).succ = k by omega]⟩ (fun ⟨d, hd⟩ => he ⟨d, by rw [hd, Nat.pow_succ']; grind⟩)
      have := (Eqm.refl p (1 + ((w ^ 2) ^ c) ^ 2 ^ k)).mul this
      rwa [Int.mul_zero] at this
    · have e2 : Eqm p ((w ^ (2 * c + 1)) ^ 2 ^ k) (-1) := by
        rw [← Int.pow_mul, Nat.mul_comm, Int.pow_mul]
        refine (hn.pow _).trans (Eqm.of_eq ?_)
        rw [Int.pow_succ, Int.pow_mul, show ((-1 : Int)) ^ 2 = 1 by decide, Int.one_pow]; rfl
      have := ((Eqm.refl p 1).add e2).mul (Eqm.refl p (sm (2 ^ k) fun q => (w ^ (2 * c + 1)) ^ q))
      rwa [show (1 + -1 : Int) = 0 by decide, Int.zero_mul] at this
end Go.Proofs.YtigdflfhepelaaaGreatDoor
/- What the rounds of a transform in its place come to. -/
namespace Go.Proofs.YtigdflfhepelaaaGreatDoor
set_option linter.unusedVariables false

/-- One pair on the way down. -/
def stp (f : Fd) (pw : List Nat) (h a j : Nat) (o : List Nat) : List Nat :=
  (o.set (a + j) ((lb o (a + j) + lb o (a + h + j)) % f.p)).set (a + h + j) (mm f (lb o (a + j) + f.p - lb o (a + h + j)) (lb pw (h + j)))
/-- One pair on the way up. -/
def stu (f : Fd) (pw : List Nat) (h a j : Nat) (o : List Nat) : List Nat :=
  (o.set (a + j) ((lb o (a + j) + mm f (lb o (a + h + j)) (lb pw (h + j))) % f.p)).set (a + h + j) ((lb o (a + j) + f.p - mm f (lb o (a + h + j)) (lb pw (h + j))) % f.p)
/-- The first j pairs of a block; the first b blocks. -/
def inn (st : Nat → Nat → List Nat → List Nat) (a : Nat) : Nat → List Nat → List Nat
  | 0, o => o
  | j + 1, o => st a j (inn st a j o)
def mid (st : Nat → Nat → List Nat → List Nat) (h : Nat) : Nat → List Nat → List Nat
  | 0, o => o
  | b + 1, o => inn st (b * (2 * h)) h (mid st h b o)

/-- A step that writes two places, out of these two alone. -/
structure Pair (st : Nat → Nat → List Nat → List Nat) (h n p : Nat) (F G : Nat → Nat → Nat → Nat) : Prop where
  len : ∀ a j o, (st a j o).length = o.length
  lt : ∀ a j o, (∀ x ∈ o, x < p) → ∀ x ∈ st a j o, x < p
  eq : ∀ a j o, o.length = n → j < h → a + 2 * h ≤ n → ∀ i, lb (st a j o) i = if i = a + h + j then G j (lb o (a + j)) (lb o (a + h + j)) else if i = a + j then F j (lb o (a + j)) (lb o (a + h + j)) else lb o i
theorem stp_pair (f : Fd) (hf : Good f) (pw : List Nat) (h n : Nat) : Pair (stp f pw h) h n f.p (fun _ x y => (x + y) % f.p) (fun j x y => mm f (x + f.p - y) (lb pw (h + j))) := by
  have p0 := hf.p0
  refine ⟨fun a j o => by simp [stp], fun a j o ho => set_lt (set_lt ho (Nat.mod_lt _ (by omega))) (mm_lt f hf _ _), fun a j o hl hj ha i => ?_⟩
  unfold stp
  rw [lb_set _ _ _ _ (by simp; omega), lb_set _ _ _ _ (by omega)]
  by_cases e : a + h + j = i
  · rw [if_pos e, if_pos e.symm]
  · rw [if_neg e, if_neg (Ne.symm e)]
    by_cases e2 : a + j = i
    · rw [if_pos e2, if_pos e2.symm]
    · rw [if_neg e2, if_neg (Ne.symm e2)]
theorem stu_pair (f : Fd) (hf : Good f) (pw : List Nat) (h n : Nat) : Pair (stu f pw h) h n f.p (fun j x y => (x + mm f y (lb pw (h + j))) % f.p) (fun j x y => (x + f.p - mm f y (lb pw (h + j))) % f.p) := by
  have p0 := hf.p0
  refine ⟨fun a j o => by simp [stu], fun a j o ho => set_lt (set_lt ho (Nat.mod_lt _ (by omega))) (Nat.mod_lt _ (by omega)), fun a j o hl hj ha i => ?_⟩
  unfold stu
  rw [lb_set _ _ _ _ (by simp; omega), lb_set _ _ _ _ (by omega)]
  by_cases e : a + h + j = i
  · rw [if_pos e, if_pos e.symm]
  · rw [if_neg e, if_neg (Ne.symm e)]
    by_cases e2 : a + j = i
    · rw [if_pos e2, if_pos e2.symm]
    · rw [if_neg e2, if_neg (Ne.symm e2)]
section
variable {st : Nat → Nat → List Nat → List Nat} {h n p : Nat} {F G : Nat → Nat → Nat → Nat} (H : Pair st h n p F G)
include H
theorem inn_len (a j : Nat) (o : List Nat) : (inn st a j o).length = o.length := by
  induction j with
  | zero => rfl
  | succ j ih => rw [inn, H.len, ih]
theorem inn_lt (a j : Nat) (o : List Nat) (ho : ∀ x ∈ o, x < p) : ∀ x ∈ inn st a j o, x < p := by
  induction j with
  | zero => exact ho
  | succ j ih => rw [inn]; exact H.lt _ _ _ ih
theorem inn_eq (a j : Nat) (o : List Nat) (hl : o.length = n) (hj : j ≤ h) (ha : a + 2 * h ≤ n) :
    (∀ i, i < j → lb (inn st a j o) (a + i) = F i (lb o (a + i)) (lb o (a + h + i)) ∧ lb (inn st a j o) (a + h + i) = G i (lb o (a + i)) (lb o (a + h + i))) ∧
    (∀ i, ((i < a ∨ a + 2 * h ≤ i) ∨ (∃ m, j ≤ m ∧ m < h ∧ (i = a + m ∨ i = a + h + m))) → lb (inn st a j o) i = lb o i) := by
  induction j with
  | zero => exact ⟨fun i hi => by omega, fun i _ => rfl⟩
  | succ j ih =>
    obtain ⟨h1, h2⟩ := ih (by omega)
    have hn := inn_len H a j o
    have e := H.eq a j (inn st a j o) (by omega) (by omega) ha
    rw [h2 (a + j) (.inr ⟨j, by omega, by omega, .inl rfl⟩), h2 (a + h + j) (.inr ⟨j, by omega, by omega, .inr rfl⟩)] at e
    refine ⟨fun i hi => ?_, fun i hi => ?_⟩
    · rw [inn, e, e, if_neg (by omega)]
      by_cases ei : i = j
      · subst ei; rw [if_pos rfl, if_pos rfl]; exact ⟨rfl, rfl⟩
      · rw [if_neg (by omega), if_neg (by omega), if_neg (by omega)]; exact h1 i (by omega)
    · rw [inn, e]
      rw [if_neg (by rcases hi with hi | ⟨m, h3, h4, h5⟩ <;> omega), if_neg (by rcases hi with hi | ⟨m, h3, h4, h5⟩ <;> omega)]
      exact h2 i (by rcases hi with hi | ⟨m, h3, h4, h5⟩; exact .inl hi; exact .inr ⟨m, by omega, h4, h5⟩)
theorem mid_len (b : Nat) (o : List Nat) : (mid st h b o).length = o.length := by
  induction b with
  | zero => rfl
  | succ b ih => rw [mid, inn_len H, ih]
theorem mid_lt (b : Nat) (o : List Nat) (ho : ∀ x ∈ o, x < p) : ∀ x ∈ mid st h b o, x < p := by
  induction b with
  | zero => exact ho
  | succ b ih => rw [mid]; exact inn_lt H _ _ _ ih
theorem mid_eq (b : Nat) (o : List Nat) (hl : o.length = n) (hb : b * (2 * h) ≤ n) :
    (∀ c i, c < b → i < h → lb (mid st h b o) (c * (2 * h) + i) = F i (lb o (c * (2 * h) + i)) (lb o (c * (2 * h) + h + i)) ∧ lb (mid st h b o) (c * (2 * h) + h + i) = G i (lb o (c * (2 * h) + i)) (lb o (c * (2 * h) + h + i))) ∧
    (∀ i, b * (2 * h) ≤ i → lb (mid st h b o) i = lb o i) := by
  induction b with
  | zero => exact ⟨fun c i hc => by omega, fun i _ => rfl⟩
  | succ b ih =>
    rw [Nat.add_mul, Nat.one_mul] at hb
    obtain ⟨h1, h2⟩ := ih (by omega)
    obtain ⟨g1, g2⟩ := inn_eq H (b * (2 * h)) h (mid st h b o) (by rw [mid_len H, hl]) (Nat.le_refl _) hb
    refine ⟨fun c i hc hi => ?_, fun i hi => ?_⟩
    · rw [mid]
      by_cases e : c = b
      · subst e
        rw [(g1 i hi).1, (g1 i hi).2, h2 _ (by omega), h2 _ (by omega)]
        exact ⟨rfl, rfl⟩
      · have : (c + 1) * (2 * h) ≤ b * (2 * h) := Nat.mul_le_mul_right _ (by omega)
        rw [Nat.add_mul, Nat.one_mul] at this
        rw [g2 _ (.inl (.inl (by omega))), g2 _ (.inl (.inl (by omega)))]
        exact h1 c i (by omega) hi
    · rw [Nat.add_mul, Nat.one_mul] at hi
      rw [mid, g2 _ (.inl (.inr hi)), h2 _ (by omega)]
end

/-- A product as it is told, modulo p. -/
theorem mm_mont_eqm (f : Fd) (hf : Good f) (x y : Nat) : Eqm (f.p : Int) ((mm f x (mont f y) : Nat) : Int) ((x : Int) * (y : Int)) := by
  rw [mm_comm, mm_mont f hf, Nat.mul_comm, ← Int.natCast_mul]; exact Eqm.nat_mod _ _
theorem add_eqm (p x y : Nat) : Eqm (p : Int) (((x + y) % p : Nat) : Int) ((x : Int) + (y : Int)) := by
  rw [← Int.natCast_add]; exact Eqm.nat_mod _ _
theorem sub_eqm (p x y : Nat) (hy : y ≤ p) : Eqm (p : Int) ((x + p - y : Nat) : Int) ((x : Int) - (y : Int)) := ⟨1, by omega⟩

/-- A list as a row of numbers. -/
def seq (l : List Nat) (i : Nat) : Int := ((lb l i : Nat) : Int)
/-- The state of a transform on the way down. -/
structure DownL (f : Fd) (k W : Nat) (l : List Nat) (s : Nat) (o : List Nat) : Prop where
  len : o.length = 2 ^ k
  lt : ∀ x ∈ o, x < f.p
  down : Down f.p W k s (seq l) (seq o)
theorem DownL.start (f : Fd) (k W : Nat) (l : List Nat) (h : l.length = 2 ^ k) (hl : ∀ x ∈ l, x < f.p) : DownL f k W l k l := ⟨h, hl, Down.start _ _ _ _⟩
theorem DownL.step {f : Fd} (hf : Good f) {k W : Nat} {l : List Nat} {s : Nat} {o pw : List Nat} (hr : Rt f.p W k) (hp : Pw f k W pw) (H : DownL f k W l (s + 1) o) (hs : s + 1 ≤ k) :
    DownL f k W l s (mid (stp f pw (2 ^ s)) (2 ^ s) (2 ^ (k - (s + 1))) o) := by
  have P := stp_pair f hf pw (2 ^ s) (2 ^ k)
  have hk : 2 ^ (k - (s + 1)) * (2 * 2 ^ s) = 2 ^ k := by rw [← Nat.pow_succ', ← Nat.pow_add]; congr 1; omega
  obtain ⟨e1, e2⟩ := mid_eq P (2 ^ (k - (s + 1))) o H.len (by omega)
  refine ⟨by rw [mid_len P, H.len], mid_lt P _ _ H.lt, H.down.step hr (fun b j hb hj => ?_) (fun b j hb hj => ?_)⟩
  · unfold seq
    rw [Nat.pow_succ', (e1 b j hb hj).1]
    exact add_eqm _ _ _
  · unfold seq
    rw [Nat.pow_succ', (e1 b j hb hj).2, hp.at_ s j (by omega) hj]
    refine (mm_mont_eqm f hf _ _).trans (Eqm.mul (sub_eqm _ _ _ (Nat.le_of_lt (lb_lt_of (by have := hf.p0; omega) H.lt _))) (Eqm.of_eq ?_))
    rw [Int.natCast_pow, show k - 1 - s = k - (s + 1) by omega]
/-- The state of a transform on the way up. -/
structure UpL (f : Fd) (k V : Nat) (l : List Nat) (s : Nat) (o : List Nat) : Prop where
  len : o.length = 2 ^ k
  lt : ∀ x ∈ o, x < f.p
  up : Up f.p V k s (seq l) (seq o)
theorem UpL.start (f : Fd) (k V : Nat) (l : List Nat) (h : l.length = 2 ^ k) (hl : ∀ x ∈ l, x < f.p) : UpL f k V l 0 l := ⟨h, hl, Up.start _ _ _ _⟩
theorem UpL.step {f : Fd} (hf : Good f) {k V : Nat} {l : List Nat} {s : Nat} {o pw : List Nat} (hr : Rt f.p V k) (hp : Pw f k V pw) (H : UpL f k V l s o) (hs : s + 1 ≤ k) :
    UpL f k V l (s + 1) (mid (stu f pw (2 ^ s)) (2 ^ s) (2 ^ (k - (s + 1))) o) := by
  have P := stu_pair f hf pw (2 ^ s) (2 ^ k)
  have hk : 2 ^ (k - (s + 1)) * (2 * 2 ^ s) = 2 ^ k := by rw [← Nat.pow_succ', ← Nat.pow_add]; congr 1; omega
  obtain ⟨e1, e2⟩ := mid_eq P (2 ^ (k - (s + 1))) o H.len (by omega)
  have hpw : ∀ x j, j < 2 ^ s → Eqm (f.p : Int) ((mm f x (lb pw (2 ^ s + j)) : Nat) : Int) ((x : Int) * (V : Int) ^ (2 ^ (k - (s + 1)) * j)) := fun x j hj => by
    rw [hp.at_ s j (by omega) hj]
    refine (mm_mont_eqm f hf _ _).trans (Eqm.of_eq ?_)
    rw [Int.natCast_pow, show k - 1 - s = k - (s + 1) by omega]
  refine ⟨by rw [mid_len P, H.len], mid_lt P _ _ H.lt, H.up.step hr hs (fun b j hb hj => ?_) (fun b j hb hj => ?_)⟩
  · unfold seq
    rw [Nat.pow_succ', (e1 b j hb hj).1]
    exact (add_eqm _ _ _).trans ((Eqm.refl _ _).add (hpw _ j hj))
  · unfold seq
    rw [Nat.pow_succ', (e1 b j hb hj).2]
    exact (Eqm.nat_mod _ _).trans ((sub_eqm _ _ _ (Nat.le_of_lt (mm_lt f hf _ _))).trans ((Eqm.refl _ _).sub (hpw _ j hj)))
end Go.Proofs.YtigdflfhepelaaaGreatDoor
/- A transform in its place, on the way down. -/
namespace Go.Proofs.YtigdflfhepelaaaGreatDoor
open Go.RowKit
set_option linter.unusedVariables false
set_option maxHeartbeats 400000

/-- Nothing but block g has turned, of what lay there. -/
def But (g : Nat) (a b : World) : Prop := a.grownBy b (some g)
theorem But.refl (g : Nat) (w : World) : But g w w := World.grownBy.refl w _
theorem But.trans {g : Nat} {a b c : World} (h : But g a b) (k : But g b c) : But g a c :=
  ⟨k.os.trans h.os, k.tape.trans h.tape, k.output.trans h.output, Nat.le_trans h.size k.size, fun i hi hne => (k.block i (Nat.lt_of_lt_of_le hi h.size) hne).trans (h.block i hi hne)⟩
theorem But.ext {g : Nat} {a b c : World} (h : But g a b) (k : Ext b c) : But g a c :=
  h.trans ⟨k.os, k.tape, k.output, k.size, fun i hi _ => k.block i hi⟩
theorem But.setCell {g : Nat} {a b : World} (h : But g a b) (j : Nat) (v : Value) : But g a (b.setCell ⟨g, j, none⟩ v) :=
  h.trans ⟨rfl, rfl, rfl, by simp [World.setCell], fun i hi hne => Below.heap_setCell _ _ _ _ (fun e => hne (by rw [e]))⟩
theorem But.drew {g : Nat} {a b : World} (h : But g a b) : But g a b.drew := ⟨h.os, h.tape, h.output, h.size, h.block⟩
theorem But.below {g B : Nat} {a b : World} (h : But g a b) (hB : B ≤ g) (ha : B ≤ a.heap.size) : Below B a b :=
  ⟨h.os, h.tape, h.output, h.size, fun i hi => h.block i (by omega) (fun e => by injection e; omega)⟩
theorem But.cell {g : Nat} {a b : World} (h : But g a b) {p : Addr} (hp : p.block < a.heap.size) (hne : p.block ≠ g) : b.cell? p = a.cell? p := World.cell?_of_block (h.block _ hp (fun e => hne (by injection e)))
theorem But.bx {g B : Nat} {a b : World} {f : Fd} (h : But g a b) (hx : Bx a B f) (hne : B ≠ g) : Bx b B f := by
  obtain ⟨h0, h1, h2, h3, h4, h5⟩ := hx
  have hc := fun o => h.cell (p := ⟨B, o, none⟩) h0 hne
  exact ⟨Nat.lt_of_lt_of_le h0 h.size, by rw [hc]; exact h1, by rw [hc]; exact h2, by rw [hc]; exact h3, by rw [hc]; exact h4, by rw [hc]; exact h5⟩
/-- A slice that begins at a block's head reads as these numbers. -/
def Rd (w : World) (q : Nat) (pw : List Nat) : Prop := q < w.heap.size ∧ ∀ j, j < pw.length → w.cell? ⟨q, j, none⟩ = some (.int .u32 (lb pw j : Nat))
theorem But.rd {g q : Nat} {a b : World} {pw : List Nat} (h : But g a b) (hx : Rd a q pw) (hne : q ≠ g) : Rd b q pw :=
  ⟨Nat.lt_of_lt_of_le hx.1 h.size, fun j hj => (h.cell (p := ⟨q, j, none⟩) hx.1 hne).trans (hx.2 j hj)⟩
theorem Own.rd {w : World} {base q n c : Nat} {o : List Nat} (h : Own w base (.slice (some ⟨q, 0, none⟩) n c) o) : Rd w q o := by
  obtain ⟨e, _, _⟩ := h.caps
  subst e
  exact ⟨h.block.2, fun j hj => h.cell hj⟩
theorem Own.frozen' {w : World} {base g n c : Nat} {o : List Nat} (h : Own w base (.slice (some ⟨g, 0, none⟩) n c) o) (j : Nat) : w.frozen? ⟨g, j, none⟩ = false := by
  obtain ⟨e, _, _⟩ := h.caps
  subst e
  exact h.frozen j
theorem Own.ext {w w' : World} {base g n c : Nat} {o : List Nat} (h : Own w base (.slice (some ⟨g, 0, none⟩) n c) o) (hB : Ext w w') : Own w' base (.slice (some ⟨g, 0, none⟩) n c) o :=
  h.below hB (fun g' hg => by injection hg with hg; subst hg; exact h.block.2)
theorem Own.set' {w : World} {base g n c : Nat} {o : List Nat} (h : Own w base (.slice (some ⟨g, 0, none⟩) n c) o) (j x : Nat) : Own (w.setCell ⟨g, j, none⟩ (.int .u32 (x : Nat))) base (.slice (some ⟨g, 0, none⟩) n c) (o.set j x) := by
  obtain ⟨e, _, _⟩ := h.caps
  subst e
  have := h.set_ j x
  rwa [List.length_set] at this

set_option maxRecDepth 100000 in
set_option maxHeartbeats 4000000 in
theorem down_calls (w : World) (f : Fd) (hf : Good f) (k W : Nat) (l pw : List Nat) (g q c base : Nat) (hk : k ≤ 20) (hr : Rt f.p W k) (hp : Pw f k W pw)
    (hl : l.length = 2 ^ k) (hlt : ∀ x ∈ l, x < f.p) (hown : Own w base (.slice (some ⟨g, 0, none⟩) l.length c) l) (hq : Rd w q pw) (hqg : q ≠ g) :
    Calls Tryz.prog 133 #[f.V, .slice (some ⟨g, 0, none⟩) l.length c, .slice (some ⟨q, 0, none⟩) pw.length pw.length] w fun e w' => e = .returned (.tuple #[]) ∧ (∃ o, DownL f k W l 0 o ∧ Own w' base (.slice (some ⟨g, 0, none⟩) o.length c) o) ∧ But g w w' := by
  have p0 := hf.p0
  have p1 := hf.p1
  have HX := Bx.new w f
  have hpl := hp.len
  obtain ⟨n, hn⟩ : ∃ n, 2 ^ k = n := ⟨_, rfl⟩
  have hn1 : n ≤ 1048576 := by rw [← hn]; exact Nat.pow_le_pow_right (by decide) hk
  have hn0 : 0 < n := by rw [← hn]; exact Nat.two_pow_pos k
  have hcap := hown.caps
  have hgb := hown.block
  have hB0 : But g w (w.alloc (.cells #[.int .u32 (f.p : Int), .int .u32 (f.root : Int), .int .u32 (f.neg : Int), .int .u32 (f.square : Int), .int .u32 (f.ahead : Int)] 137)) := (But.refl g w).ext ((Ext.refl w).alloc _)
  have hq0 := hB0.rd hq hqg
  have hown0 := hown.ext ((Ext.refl w).alloc (.cells #[.int .u32 (f.p : Int), .int .u32 (f.root : Int), .int .u32 (f.neg : Int), .int .u32 (f.square : Int), .int .u32 (f.ahead : Int)] 137))
  have hwg : w.heap.size ≠ g := by omega
  rw [hn] at hl hpl
  rw [hl] at hown0 hcap ⊢
  rw [hpl]
  have HS : Hid (DownL f k W l k l) := DownL.start f k W l (by rw [hl, hn]) hlt
  have HN := Lib.hid hn
  have HP := Lib.hid hp
  clear hn hown hq hp hlt hpl hl
  obtain ⟨hc1, hc2, hc3⟩ := hcap
  unfold maxLen at hc3
  obtain ⟨h0, hh0⟩ : ∃ h0, n / 2 = h0 := ⟨_, rfl⟩
  have hst : ((n : Nat) : Int) / 2 = (h0 : Int) := by omega
  have HH := Lib.hid hh0
  clear hh0
  unfold Fd.V
  go_enter Tryz.func133, Tryz.ntmps133
  go_wp2
  go_loopw [6] (fun h wr => ∃ (s : Nat) (o : List Nat), s ≤ k ∧ h = .int .i64 ((2 ^ s / 2 : Nat) : Int) ∧ Hid (DownL f k W l s o) ∧ Own wr base (.slice (some ⟨g, 0, none⟩) n c) o ∧ But g w wr ∧ Bx wr w.heap.size f ∧ Rd wr q pw) (fun h _ => (intOf h).toNat)
  case atStart => exact ⟨k, l, Nat.le_refl _, by rw [HN.out, HH.out], HS, hown0, hB0, HX, hq0⟩
  case round =>
    clear HX hq0 hown0 hB0 HS
    obtain ⟨s, o, hs, rfl, HS, hown, hB, HX, hq⟩ := hrel
    rcases s with _ | s
    · go_wp2
      go_end0
      exact ⟨rfl, ⟨o, HS.out, by rw [HS.out.len, HN.out]; exact hown⟩, hB⟩
    · obtain ⟨h, hh⟩ : ∃ h, 2 ^ s = h := ⟨_, rfl⟩
      rw [show 2 ^ (s + 1) / 2 = h by rw [Nat.pow_succ, hh]; omega]
      have hM : 2 ^ (k - (s + 1)) * (2 * h) = n := by rw [← hh, ← Nat.pow_succ', ← Nat.pow_add, ← HN.out]; congr 1; omega
      have hh0 : 0 < h := by rw [← hh]; exact Nat.two_pow_pos s
      obtain ⟨M, hMM⟩ : ∃ M, 2 ^ (k - (s + 1)) = M := ⟨_, rfl⟩
      rw [hMM] at hM
      have HMM := Lib.hid hMM
      clear hMM
      have hM0 : 0 < M := by rcases Nat.eq_zero_or_pos M with e | e; · rw [e] at hM; omega
                             · exact e
      have h2h : 2 * h ≤ n := by rw [← hM]; exact Nat.le_mul_of_pos_left _ hM0
      have HM := Lib.hid hM
      have HHH := Lib.hid hh
      have h2 : 2 * h - h = h := by omega
      have hoL : o.length = n := by rw [HS.out.len]; exact HN.out
      have HOL := Lib.hid hoL
      clear hM hh hst hoL
      go_wp2
      rw [h2]
      clear h2
      go_loopw [8] (fun a wr => ∃ (b A : Nat), b ≤ M ∧ Hid (A = b * (2 * h)) ∧ a = .int .i64 (A : Nat) ∧ A ≤ n ∧ Own wr base (.slice (some ⟨g, 0, none⟩) n c) (mid (stp f pw h) h b o) ∧ But g w wr ∧ Bx wr w.heap.size f ∧ Rd wr q pw) (fun a _ => n - (intOf a).toNat)
      case atStart => exact ⟨0, 0, Nat.zero_le _, by rw [Hid, Nat.zero_mul], rfl, Nat.zero_le _, hown, hB, HX, hq⟩
      case round =>
        clear hown hB HX hq
        obtain ⟨b, A, hb, HA, rfl, hAn, hown, hB, HX, hq⟩ := hrel
        by_cases hlt : A < n
        · have hA2 : A + 2 * h ≤ n := by
            have h1 := HA.out
            have h3 := HM.out
            have : b < M := by
              rcases Nat.lt_or_ge b M with h | h
              · exact h
              · have : b = M := by omega
                subst this; omega
            have := Nat.mul_le_mul_right (2 * h) (show b + 1 ≤ M from this)
            rw [Nat.add_mul, Nat.one_mul] at this
            omega
          have hbM : b + 1 ≤ M := by
            have h1 := HA.out
            have h3 := HM.out
            rcases Nat.lt_or_ge b M with h | h
            · exact h
            · have : b = M := by omega
              subst this; omega
          obtain ⟨o1, ho1⟩ : ∃ o1, mid (stp f pw h) h b o = o1 := ⟨_, rfl⟩
          have HO1 := Lib.hid ho1
          rw [ho1] at hown
          clear ho1
          go_wp2
          go_region
          go_wp2
          have hL1 : A + h - A = h := by omega
          have hL2 : A + 2 * h - (A + h) = h := by omega
          rw [hL1, hL2]
          clear hL1 hL2
          have P := stp_pair f hf pw h n
          have ho1L : Hid (o1.length = n) := by rw [Hid, ← HO1.out, mid_len P]; exact HOL.out
          have ho1p : Hid (∀ x ∈ o1, x < f.p) := by rw [Hid, ← HO1.out]; exact mid_lt P _ _ HS.out.lt
          go_loopw [52] (fun t wr => ∃ j : Nat, j ≤ h ∧ t = .int .i64 (j : Nat) ∧ Own wr base (.slice (some ⟨g, 0, none⟩) n c) (inn (stp f pw h) A j o1) ∧ But g w wr ∧ Bx wr w.heap.size f ∧ Rd wr q pw) (fun t _ => h - (intOf t).toNat)
          case atStart => exact ⟨0, Nat.zero_le _, rfl, hown, hB.drew, HX, hq⟩
          case round =>
            clear hown hB HX hq
            obtain ⟨j, hj, rfl, hown, hB, HX, hq⟩ := hrel
            by_cases hjh : j < h
            · obtain ⟨o2, ho2⟩ : ∃ o2, inn (stp f pw h) A j o1 = o2 := ⟨_, rfl⟩
              have ho2p : ∀ x ∈ o2, x < f.p := by rw [← ho2]; exact inn_lt P _ _ _ ho1p.out
              have ho2L : o2.length = n := by rw [← ho2, inn_len P]; exact ho1L.out
              have HO2L := Lib.hid ho2L
              have HST : Hid (inn (stp f pw h) A (j + 1) o1 = (o2.set (A + j) ((lb o2 (A + j) + lb o2 (A + h + j)) % f.p)).set (A + h + j) (mm f (lb o2 (A + j) + f.p - lb o2 (A + h + j)) (lb pw (h + j)))) := by
                rw [Hid, inn, ho2]; rfl
              rw [ho2] at hown
              have hx1 : lb o2 (A + j) < f.p := lb_lt_of (by omega) ho2p _
              have hx2 : lb o2 (A + h + j) < f.p := lb_lt_of (by omega) ho2p _
              have hx3 : lb pw (h + j) < f.p := lb_lt_of (by omega) HP.out.lt _
              have hr1 := hq.2 (h + j) (by rw [HP.out.len, HN.out]; omega)
              have hr2 := hown.rd.2 (A + j) (by omega)
              have hr3 := hown.rd.2 (A + h + j) (by omega)
              have hfr1 := hown.frozen' (A + j)
              obtain ⟨b0, b1, b2, b3, b4, b5⟩ := id HX
              generalize lb o2 (A + j) = x at *
              generalize lb o2 (A + h + j) = y at *
              generalize lb pw (h + j) = r at *
              clear ho2 ho2p ho2L ho1L ho1p HO1 P
              obtain ⟨d, hd⟩ : ∃ d, x + f.p - y = d := ⟨_, rfl⟩
              have hdi : (x : Int) + (f.p : Int) - (y : Int) = (d : Int) := by omega
              have hd2 : d < 4294967296 := by omega
              have HDD := Lib.hid hd
              clear hd
              go_wp2
              go_region
              go_wp2_with (fail)
              refine (add_calls _ f hf x y hx1 hx2).mono ?_
              rintro e w2 ⟨rfl, hB2⟩
              replace hB2 : Ext wr w2 := ((Ext.refl wr).drew).below hB2
              have hs2 := hown.ext hB2
              have hB3 := hB.ext hB2
              have hX2 := HX.ext hB2
              have hq2 : Rd w2 q pw := ((But.refl g wr).ext hB2).rd hq hqg
              have hf2 := hs2.frozen' (A + j)
              have hc4 := hs2.rd.2 (A + j) (by have := HO2L.out; omega)
              have hs3 := hs2.set' (A + j) ((x + y) % f.p)
              have hB4 := hB3.setCell (A + j) (.int .u32 ((x + y) % f.p : Nat))
              have hX3 := ((But.refl g w2).setCell (A + j) (.int .u32 ((x + y) % f.p : Nat))).bx hX2 hwg
              have hq3 := ((But.refl g w2).setCell (A + j) (.int .u32 ((x + y) % f.p : Nat))).rd hq2 hqg
              have hz : (x + y) % f.p < 4294967296 := Nat.lt_trans (Nat.mod_lt _ (by omega)) (by omega)
              generalize (x + y) % f.p = z at *
              clear hown hB HX hq hs2 hB3 hX2 hq2 b0 b1 b2 b3 b4 b5 hr2 hr3 hr1 hfr1
              obtain ⟨b0, b1, b2, b3, b4, b5⟩ := id hX3
              go_wp2_with (fail)
              refine (mul_calls _ f hf d r hd2 (by omega) (lt_prod hd2 hx3)).mono ?_
              rintro e w3 ⟨rfl, hB5⟩
              have hs5 := hs3.ext hB5
              have hB6 := hB4.ext hB5
              have hX5 := hX3.ext hB5
              have hq5 : Rd w3 q pw := ((But.refl g _).ext hB5).rd hq3 hqg
              have hf5 := hs5.frozen' (A + h + j)
              have hc5 := hs5.rd.2 (A + h + j) (by rw [List.length_set]; have := HO2L.out; omega)
              have hs6 := hs5.set' (A + h + j) (mm f d r)
              have hB7 := hB6.setCell (A + h + j) (.int .u32 (mm f d r : Nat))
              have hX6 := ((But.refl g w3).setCell (A + h + j) (.int .u32 (mm f d r : Nat))).bx hX5 hwg
              have hq6 := ((But.refl g w3).setCell (A + h + j) (.int .u32 (mm f d r : Nat))).rd hq5 hqg
              rw [HDD.out] at HST
              rw [← HST.out] at hs6
              generalize mm f d r = v at *
              clear hs3 hB4 hX3 hq3 hs5 hB6 hX5 hq5 hf2 hc4 b0 b1 b2 b3 b4 b5 HST hdi
              go_wp2_with (fail)
              go_roundw
              case rel => exact ⟨j + 1, by omega, by go_num, hs6, hB7, hX6, hq6⟩
              case measure => simp [intOf]; omega
            · obtain rfl : j = h := by omega
              have hfin : Hid (inn (stp f pw j) A j o1 = mid (stp f pw j) j (b + 1) o) := by rw [Hid, mid, ← HA.out, HO1.out]
              rw [hfin.out] at hown
              have hA3 : Hid (A + 2 * j = (b + 1) * (2 * j)) := by rw [Hid, Nat.add_mul, Nat.one_mul, HA.out]
              clear ho1L ho1p HO1 P hjh
              go_wp2
              go_roundw
              case rel => exact ⟨b + 1, A + 2 * j, by omega, hA3, by go_num, by omega, hown, hB, HX, hq⟩
              case measure => simp [intOf]; omega
        · obtain rfl : A = n := by omega
          have hbM : b = M := by
            have h1 := HA.out
            have h3 := HM.out
            rcases Nat.lt_or_ge b M with hbM | hbM
            · have := Nat.mul_lt_mul_of_pos_right hbM (show 0 < 2 * h by omega)
              omega
            · omega
          have HD : Hid (DownL f k W l s (mid (stp f pw h) h b o)) := by
            have := HS.out.step hf hr HP.out hs
            rw [HHH.out, HMM.out, ← hbM] at this
            exact this
          generalize mid (stp f pw h) h b o = o3 at *
          have hst2 : ((h : Nat) : Int) / 2 = ((h / 2 : Nat) : Int) := by omega
          obtain ⟨h5, hh5⟩ : ∃ h5, h / 2 = h5 := ⟨_, rfl⟩
          rw [hh5] at hst2
          have HH5 := Lib.hid hh5
          clear hh5 HA HM hlt
          go_wp2
          go_roundw
          case rel => exact ⟨s, o3, by omega, by rw [HHH.out, HH5.out], HD, hown, hB, HX, hq⟩
          case measure => simp [intOf]; omega
end Go.Proofs.YtigdflfhepelaaaGreatDoor
