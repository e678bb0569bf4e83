/- Words to the base 2^64 and the numbers that they are: plain lists and naturals. -/
import Derived.Test.YtkmejhkdmnjbeaaDoorPb
import Derived.Test.YtkmejhkdmnjbeaaDoorRows
import Derived.Test.YtkmejhkdmnjbeaaDoorCards
import Derived.Test.YtkmejhkdmnjbeaaDoorTie
import Derived.SevenTiedAt
import Derived.LaidMore
import Derived.Stop.Joined
import Derived.JoinedOf
import Derived.JoinedAt
import Derived.Lib.SmallJoins
import Derived.Laws.BitsLemmas
import Derived.Deep.RegionHeld3
import Derived.Maps.AppendAt
import Derived.Deep.Cut
import Derived.Deep.CutRange
import Derived.Shelf.Bits.Mul64
import Derived.BigRegion

namespace Go.Proofs.YtkmejhkdmnjbeaaDoor
set_option linter.unusedVariables false

/-- The number that words are, the lowest first. -/
def wal : List Nat → Nat
  | [] => 0
  | x :: xs => x + 18446744073709551616 * wal xs
def BB : Nat := 18446744073709551616
theorem wal_append (xs ys : List Nat) : wal (xs ++ ys) = wal xs + BB ^ xs.length * wal ys := by
  induction xs with
  | nil => simp [wal]
  | cons x xs ih =>
    simp only [List.cons_append, wal, ih, List.length_cons, Nat.pow_succ]
    rw [Nat.mul_add, Nat.add_assoc]
    congr 2
    rw [← Nat.mul_assoc, Nat.mul_comm 18446744073709551616]
    rfl
theorem wal_lt (xs : List Nat) (h : ∀ x ∈ xs, x < 18446744073709551616) : wal xs < BB ^ xs.length := by
  induction xs with
  | nil => simp [wal]
  | cons x xs ih =>
    have h1 := ih fun y hy => h y (List.mem_cons_of_mem _ hy)
    have h2 := h x (List.mem_cons_self ..)
    simp only [wal, List.length_cons, Nat.pow_succ]
    have : wal xs * 18446744073709551616 + 18446744073709551616 ≤ BB ^ xs.length * BB := by
      have := Nat.mul_le_mul_right 18446744073709551616 (show wal xs + 1 ≤ BB ^ xs.length from h1)
      rw [Nat.add_mul] at this
      show _ ≤ BB ^ xs.length * 18446744073709551616
      omega
    omega
theorem wal_zeros (n : Nat) : wal (List.replicate n 0) = 0 := by
  induction n with
  | zero => rfl
  | succ n ih => rw [List.replicate_succ, wal, ih]
theorem wal_set (o : List Nat) (i x : Nat) (h : i < o.length) : wal (o.set i x) + BB ^ i * lb o i = wal o + BB ^ i * x := by
  induction o generalizing i with
  | nil => simp at h
  | cons y ys ih =>
    cases i with
    | zero =>
      simp only [List.set_cons_zero, wal, Nat.pow_zero, Nat.one_mul]
      have : lb (y :: ys) 0 = y := rfl
      omega
    | succ i =>
      have := ih i (by simpa using h)
      simp only [List.set_cons_succ, wal]
      have e : lb (y :: ys) (i + 1) = lb ys i := by simp [lb]
      rw [e, Nat.pow_succ, Nat.mul_comm (BB ^ i) BB]
      have h2 : BB * (wal (ys.set i x) + BB ^ i * lb ys i) = BB * (wal ys + BB ^ i * x) := by rw [this]
      rw [Nat.mul_add, Nat.mul_add, ← Nat.mul_assoc, ← Nat.mul_assoc] at h2
      show y + BB * _ + _ = y + BB * _ + _
      omega
theorem wal_take_succ (xs : List Nat) (k : Nat) (h : k < xs.length) : wal (xs.take (k + 1)) = wal (xs.take k) + BB ^ k * lb xs k := by
  have e : xs.take (k + 1) = xs.take k ++ [lb xs k] := by
    rw [List.take_add_one, List.getElem?_eq_getElem h]
    unfold lb
    rw [List.getElem?_eq_getElem h]; rfl
  rw [e, wal_append, List.length_take, Nat.min_eq_left (by omega)]
  simp [wal]
theorem wal_cut (xs : List Nat) (k : Nat) (h : k ≤ xs.length) : wal xs = wal (xs.take k) + BB ^ k * wal (xs.drop k) := by
  conv => lhs; rw [← List.take_append_drop k xs]
  rw [wal_append, List.length_take, Nat.min_eq_left h]
theorem wal_inj {xs ys : List Nat} (hl : xs.length = ys.length) (hx : ∀ x ∈ xs, x < 18446744073709551616) (hy : ∀ x ∈ ys, x < 18446744073709551616) (h : wal xs = wal ys) : xs = ys := by
  induction xs generalizing ys with
  | nil => cases ys with
    | nil => rfl
    | cons _ _ => simp at hl
  | cons x xs ih => cases ys with
    | nil => simp at hl
    | cons y ys =>
      have h1 := hx x (List.mem_cons_self ..)
      have h2 := hy y (List.mem_cons_self ..)
      simp only [wal] at h
      have e1 : x = y := by omega
      have e2 : wal xs = wal ys := by omega
      rw [e1, ih (by simpa using hl) (fun z hz => hx z (List.mem_cons_of_mem _ hz)) (fun z hz => hy z (List.mem_cons_of_mem _ hz)) e2]

/-- Limbs as words. -/
def packL : List Nat → List Nat
  | [] => []
  | [x] => [x]
  | x :: y :: r => (x + 4294967296 * y) :: packL r
theorem packL_len : ∀ xs : List Nat, (packL xs).length = (xs.length + 1) / 2
  | [] => rfl
  | [x] => by simp [packL]
  | x :: y :: r => by rw [packL, List.length_cons, packL_len r]; simp only [List.length_cons]; omega
theorem wal_packL : ∀ xs : List Nat, wal (packL xs) = val xs
  | [] => rfl
  | [x] => rfl
  | x :: y :: r => by rw [packL, wal, wal_packL r]; simp only [val]; omega
theorem lb_packL : ∀ (xs : List Nat) (i : Nat), lb (packL xs) i = lb xs (2 * i) + 4294967296 * lb xs (2 * i + 1)
  | [], i => by simp [packL, lb]
  | [x], i => by
    cases i with
    | zero => simp [packL, lb]
    | succ i => rw [show 2 * (i + 1) = (2 * i + 1) + 1 by omega]; simp [packL, lb]
  | x :: y :: r, i => by
    cases i with
    | zero => simp [packL, lb]
    | succ i =>
      have := lb_packL r i
      have e1 : lb (packL (x :: y :: r)) (i + 1) = lb (packL r) i := by simp [packL, lb]
      have e2 : lb (x :: y :: r) (2 * (i + 1)) = lb r (2 * i) := by rw [show 2 * (i + 1) = 2 * i + 1 + 1 by omega]; simp [lb]
      have e3 : lb (x :: y :: r) (2 * (i + 1) + 1) = lb r (2 * i + 1) := by rw [show 2 * (i + 1) + 1 = 2 * i + 1 + 1 + 1 by omega]; simp [lb]
      rw [e1, e2, e3, this]
theorem packL_lt (xs : List Nat) (h : ∀ x ∈ xs, x < 4294967296) : ∀ x ∈ packL xs, x < 18446744073709551616 := by
  refine mem_of_lb fun j hj => ?_
  rw [lb_packL]
  have h1 := lb_lt h (2 * j)
  have h2 := lb_lt h (2 * j + 1)
  omega
/-- Words as limbs. -/
def unpackL : List Nat → List Nat
  | [] => []
  | x :: r => x % 4294967296 :: x / 4294967296 :: unpackL r
theorem unpackL_len (ws : List Nat) : (unpackL ws).length = 2 * ws.length := by
  induction ws with
  | nil => rfl
  | cons x r ih => simp only [unpackL, List.length_cons, ih]; omega
theorem val_unpackL (ws : List Nat) : val (unpackL ws) = wal ws := by
  induction ws with
  | nil => rfl
  | cons x r ih => simp only [unpackL, val, wal, ih]; omega
theorem unpackL_lt (ws : List Nat) (h : ∀ x ∈ ws, x < 18446744073709551616) : ∀ x ∈ unpackL ws, x < 4294967296 := by
  induction ws with
  | nil => intro x hx; simp [unpackL] at hx
  | cons y r ih =>
    intro x hx
    have h0 := h y (List.mem_cons_self ..)
    simp only [unpackL, List.mem_cons] at hx
    rcases hx with rfl | rfl | hx
    · omega
    · omega
    · exact ih (fun z hz => h z (List.mem_cons_of_mem _ hz)) x hx
theorem lb_unpackL (ws : List Nat) (i : Nat) : lb (unpackL ws) (2 * i) = lb ws i % 4294967296 ∧ lb (unpackL ws) (2 * i + 1) = lb ws i / 4294967296 := by
  induction ws generalizing i with
  | nil => simp [unpackL, lb]
  | cons x r ih =>
    cases i with
    | zero => simp [unpackL, lb]
    | succ i =>
      have := ih i
      have e1 : lb (unpackL (x :: r)) (2 * (i + 1)) = lb (unpackL r) (2 * i) := by rw [show 2 * (i + 1) = 2 * i + 1 + 1 by omega]; simp [unpackL, lb]
      have e2 : lb (unpackL (x :: r)) (2 * (i + 1) + 1) = lb (unpackL r) (2 * i + 1) := by rw [show 2 * (i + 1) + 1 = 2 * i + 1 + 1 + 1 by omega]; simp [unpackL, lb]
      have e3 : lb (x :: r) (i + 1) = lb r i := by simp [lb]
      rw [e1, e2, e3]; exact this

/-- One place more, added. -/
theorem wadd_step (P S S' x y c d A v : Nat) (hset : S' + P * x = S + P * v) (hinv : S + P * c = A) (hd : x + y + c = v + BB * d) : S' + P * BB * d = A + P * y := by
  have h1 : P * (x + y + c) = P * (v + BB * d) := by rw [hd]
  rw [Nat.mul_add, Nat.mul_add, Nat.mul_add, ← Nat.mul_assoc] at h1
  omega
/-- One place more, taken away. -/
theorem wsub_step (P S S' x y c d A T v : Nat) (hset : S' + P * x = S + P * v) (hinv : S + T = A + P * c) (hd : x + BB * d = v + y + c) : S' + (T + P * y) = A + P * BB * d := by
  have h1 : P * (x + BB * d) = P * (v + y + c) := by rw [hd]
  rw [Nat.mul_add, Nat.mul_add, Nat.mul_add, ← Nat.mul_assoc] at h1
  omega
end Go.Proofs.YtkmejhkdmnjbeaaDoor
/- The calls whose answers the document fixes. -/
namespace Go.Proofs.YtkmejhkdmnjbeaaDoor
open Go.RowKit
set_option linter.unusedVariables false

end Go.Proofs.YtkmejhkdmnjbeaaDoor
/- What every statement's proof ends with: the table read; the arguments opened, and read again behind the call. -/
namespace Go.Proofs.YtkmejhkdmnjbeaaDoor
open Go.ChangeShapes Go.WideShapes Go.ChangeAt Go.RowKit
set_option linter.unusedVariables false
set_option maxRecDepth 100000

theorem own : ownKnob Tryd.prog.godebug = none := by kernel_rfl
theorem laidOut : laidOutB Tryd.prog = true := by kernel_rfl
theorem cells32 : Tryd.prog.cellsOf 35 = 1 := by kernel_rfl
theorem cellsFd : Tryd.prog.cellsOf 77 = 5 := by kernel_rfl
theorem cellsTab : Tryd.prog.cellsOf 78 = 15 := by kernel_rfl
theorem gTab : Tryd.prog.globalNamed "ziggurat/ntt.fields" = some 0 := by kernel_rfl
theorem tTab : (Tryd.prog.globals[0]?).map (·.type) = some 78 := by kernel_rfl
abbrev laidT : List (String × DataW Unit) := [("ziggurat/ntt.fields", Rows.laid_ziggurat_ntt_fields)]

theorem fd_of_trod {H : Type} {enc : TypeId × Value → H} {W : World} {sp : Nat → Bool} {held : Bool} {m : Nat} {cs : List Value} {y : DataW H × List MemPlace}
    (h : DataW.trod enc Tryd.prog W 0 sp held m 77 cs = some y) : ∃ a b c d e : Int, cs = [.int .u32 a, .int .u32 b, .int .u32 c, .int .u32 d, .int .u32 e] ∧ y.1 = .agg [.lit (.int .u32 a), .lit (.int .u32 b), .lit (.int .u32 c), .lit (.int .u32 d), .lit (.int .u32 e)] := by
  obtain ⟨ys, n, _, rfl, hl, hlen, hf⟩ := DataW.trod_struct Tryd.underlying77 h
  rw [cellsFd] at hl
  match cs, hl, ys, hlen, hf with
  | [c0, c1, c2, c3, c4], _, [y0, y1, y2, y3, y4], _, hf =>
    have h0 := hf 0 _ rfl
    have h1 := hf 1 _ rfl
    have h2 := hf 2 _ rfl
    have h3 := hf 3 _ rfl
    have h4 := hf 4 _ rfl
    simp [cells32] at h0 h1 h2 h3 h4
    obtain ⟨a, e0, rfl, _⟩ := DataW.trod_int Tryd.underlying35 h0
    obtain ⟨b, e1, rfl, _⟩ := DataW.trod_int Tryd.underlying35 h1
    obtain ⟨c, e2, rfl, _⟩ := DataW.trod_int Tryd.underlying35 h2
    obtain ⟨d, e3, rfl, _⟩ := DataW.trod_int Tryd.underlying35 h3
    obtain ⟨e, e4, rfl, _⟩ := DataW.trod_int Tryd.underlying35 h4
    simp at e0 e1 e2 e3 e4
    subst e0 e1 e2 e3 e4
    exact ⟨a, b, c, d, e, rfl, rfl⟩

theorem gl_of_laid {W : World} (h : laidMetH Tryd.prog laidT W) : Gl W := by
  rw [MakeChecks.laidMetH_plain _ _ _ (by kernel_rfl)] at h
  obtain ⟨ps, ⟨g0, t0, cs0, f0, p0, q0, hg0, ht0, hv0, hd0, _, _⟩, _⟩ := h
  obtain rfl := Option.some.inj (gTab.symm.trans hg0)
  obtain rfl := Option.some.inj (tTab.symm.trans ht0)
  obtain ⟨xs, m1, rfl, hx1, hlen, hn3, hel⟩ := DataW.trod_array Tryd.underlying78 hd0
  rw [cellsTab] at hlen
  simp only [cellsFd] at hel
  match xs, hn3, hx1, hel with
  | [x0, x1, x2], _, hx1, hel =>
    have e0 := hel 0 (by decide)
    have e1 := hel 1 (by decide)
    have e2 := hel 2 (by decide)
    simp at e0 e1 e2
    obtain ⟨a0, b0, c0, d0, f0, k0, j0⟩ := fd_of_trod e0
    obtain ⟨a1, b1, c1, d1, f1, k1, j1⟩ := fd_of_trod e1
    obtain ⟨a2, b2, c2, d2, f2, k2, j2⟩ := fd_of_trod e2
    simp only [Prod.mk.injEq, DataW.agg.injEq, List.map_cons, List.map_nil, Rows.laid_ziggurat_ntt_fields, List.cons.injEq, j0, j1, j2, DataW.lit.injEq, Lit.int.injEq, and_true, true_and] at hx1
    obtain ⟨⟨⟨rfl, rfl, rfl, rfl, rfl⟩, ⟨rfl, rfl, rfl, rfl, rfl⟩, ⟨rfl, rfl, rfl, rfl, rfl⟩⟩, _⟩ := hx1
    obtain ⟨l⟩ := cs0
    have hl15 : l = [.int .u32 998244353, .int .u32 3, .int .u32 998244351, .int .u32 932051910, .int .u32 0, .int .u32 469762049, .int .u32 3, .int .u32 469762047, .int .u32 460175152, .int .u32 305718167, .int .u32 167772161, .int .u32 3, .int .u32 167772159, .int .u32 40265974, .int .u32 115614034] := by
      have e : l = l.take 5 ++ ((l.drop 5).take 5 ++ (l.drop 10).take 5) := by
        have h10 : l.drop 10 = (l.drop 5).drop 5 := by rw [List.drop_drop]
        have h5 : (l.drop 10).take 5 = l.drop 10 := List.take_of_length_le (by simp at hlen; simp [hlen])
        rw [h5, h10, List.take_append_drop, List.take_append_drop]
      rw [e, k0, k1, k2]; rfl
    subst hl15
    have hc := fun k => World.var?_cell hg0 hv0 k
    refine ⟨?_, ⟨hc 0, hc 1, hc 2, hc 3, hc 4⟩, ⟨hc 5, hc 6, hc 7, hc 8, hc 9⟩, ⟨hc 10, hc 11, hc 12, hc 13, hc 14⟩⟩
    have := World.block_lt_of_cell? W ⟨0, 0, none⟩ (hc 0)
    exact this

/-- The heap that the program's own text lays meets the condition. -/
theorem door_met (os : Os) (args : Array Value) : laidMetH Tryd.prog laidT ((World.doorLaid Tryd.prog 400 os).forCall (fun _ _ => 0) ⟨#[], args, []⟩).memory :=
  laidMetH_of_parts3 (fuel := 8) (laidMet_of_run' 8 (by kernel_rfl) (by kernel_rfl)) (by kernel_rfl) (by kernel_rfl)

/-- All arguments read behind a call that turns nothing as they read before it. -/
theorem trodAll_after {H : Type} {enc : TypeId × Value → H} {W W' : World} {sp : Nat → Bool} (hB : Ext W W') : ∀ {ts : List TypeId} {vs : List Value} {ds : List (DataW H)} {ps : List MemPlace},
    (∀ t ∈ ts, Tryd.prog.readableRec t = true ∧ t < Tryd.prog.types.size) → DataW.TrodAll enc Tryd.prog W 0 (fun _ => true) true ts vs ds ps → (∀ p ∈ ps, p.block < W.heap.size) → (∀ p ∈ ps, sp p.block = true) → DataW.TrodAll enc Tryd.prog W' 0 sp true ts vs ds ps
  | [], [], [], _, _, h, _, _ => h
  | t :: _, _ :: _, _ :: _, _, hT, ⟨p, q, h1, h2, e⟩, hlt, hs => ⟨p, q,
      WideElems.Trod_stays laidOut (hT t (List.mem_cons_self ..)).1 (hT t (List.mem_cons_self ..)).2 h1 (fun x hx => Below.same hB (hlt x (by rw [e]; exact List.mem_append_left _ hx))) (fun x hx => hs x (by rw [e]; exact List.mem_append_left _ hx)),
      trodAll_after hB (fun t ht => hT t (List.mem_cons_of_mem _ ht)) h2 (fun x hx => hlt x (by rw [e]; exact List.mem_append_right _ hx)) (fun x hx => hs x (by rw [e]; exact List.mem_append_right _ hx)), e⟩

/-- WHAT A STATEMENT ASKS BEHIND THE CALL: true; the arguments read as they did. -/
theorem law_post {H : Type} {enc : TypeId × Value → H} {f : Func} {s : ChangeSpec} {apart fresh handsOn again : Bool} {W W' : World} {args : Array Value} {ds gs : List (DataW H)} {before : List MemPlace}
    (hW : DataW.Whole enc Tryd.prog f.params.toList s.vars apart W args.toList ds gs before) (hv : s.vars = []) (hT : ∀ t ∈ f.params.toList, Tryd.prog.readableRec t = true ∧ t < Tryd.prog.types.size)
    (hres : f.resultTypes = #[4]) (hfn : (s.fn H (ds ++ gs)).results = [.lit (.bool true)]) (hfa : (s.fn H (ds ++ gs)).args = ds) (hfv : (s.fn H (ds ++ gs)).vars = []) (hB : Ext W W') :
    s.post enc Tryd.prog f apart fresh handsOn again W args (.bool true) W' := by
  have hlt : ∀ p ∈ before, p.block < W.heap.size := fun p hp => hW.lt p hp
  have hold : ∀ p ∈ before, (fun b => decide (b < W.heap.size)) p.block = true := fun p hp => by simpa using hlt p hp
  have hres' : ∀ (b : Nat) (sp : Nat → Bool) (hd : Bool), DataW.TrodAll enc Tryd.prog W' b sp hd f.resultTypes.toList ((Value.bool true).resultList f.resultTypes.size) (s.fn H (ds ++ gs)).results [] := by
    intro b sp hd
    rw [hres, hfn]
    exact trodAll_mk1 (shut_bool Tryd.underlying4 _)
  have hW2 := hW
  obtain ⟨p, q, hA, hV, hpq, hz, hn⟩ := hW
  rw [hv] at hV
  obtain ⟨_, rfl⟩ := trodVars_none hV
  rw [List.append_nil] at hpq
  subst hpq
  have hargs : ∀ sp : Nat → Bool, (∀ p' ∈ before, sp p'.block = true) → DataW.TrodAll enc Tryd.prog W' 0 sp true f.params.toList args.toList (s.fn H (ds ++ gs)).args before := fun sp hs => by
    rw [hfa]; exact trodAll_after hB hT hA hlt hs
  have hvars : ∀ sp : Nat → Bool, DataW.TrodVars enc Tryd.prog W' sp s.vars (s.fn H (ds ++ gs)).vars [] := fun sp => by rw [hv, hfv]; exact rfl
  refine ⟨ds, gs, before, [], before, [], hW2, hres' _ _ _, hargs _ hold, hvars _, World.keptBut_mono (fun p hp => ⟨hp, ?_⟩) (Below.frame hB (· ∈ before)), fun _ => ?_⟩
  · simpa using hp
  · refine ⟨ok_one hres rfl (okWide_bool_mk Tryd.underlying4 _), _, _, ([] ++ before) ++ [], ⟨[] ++ before, [], trodAll_append (hargs _ (fun _ _ => rfl)) (hres' _ _ _), hvars _, rfl, ?_, ?_⟩, ?_⟩
    · intro b off hp
      have hin : MemPlace.cell b off ∈ before := by simpa using hp
      rw [Below.frozen hB (hlt _ hin)]
      exact hz b off hin
    · intro ha
      have := hn ha
      simpa using this
    · intro p hp _
      simpa using hp

/-- A slice of 32-bit limbs among the arguments. -/
theorem open_limbs {H : Type} {enc : TypeId × Value → H} {W : World} {base : Nat} {v : Value} {d : DataW H} {ps : List MemPlace} (hval : Value.okWide Tryd.prog W .any base 22 v) (h : DataW.Trod enc Tryd.prog W 0 (fun _ => true) true 22 v d ps)
    (hlt : ∀ p ∈ ps, p.block < W.heap.size) : ∃ xs : List Nat, U W v xs := by
  obtain ⟨a0, len, cap, rfl⟩ := okWide_slice Tryd.underlying22 hval
  obtain ⟨fuel, hf⟩ := h
  rcases open_ints Tryd.underlying22 Tryd.underlying35 cells32 hf with ⟨hcs, hx⟩ | ⟨a, len', cap', zs, hcs, _, hl, hm, hz, hx, hcell, hwz⟩
  · simp [Value.cells] at hcs
    obtain ⟨rfl, rfl, rfl⟩ := hcs
    exact ⟨[], U.nil_ _ _ _⟩
  · simp [Value.cells] at hcs
    obtain ⟨rfl, rfl, rfl⟩ := hcs
    simp only [if_true] at hz
    have hlen : ((zs.take len).map Int.toNat).length = len := by simp; omega
    have hb : ∀ z ∈ zs, 0 ≤ z ∧ z < 4294967296 := fun z hzz => by have := bounds_u32 (hwz z hzz); omega
    refine ⟨(zs.take len).map Int.toNat, some a, cap, by rw [hlen], ⟨by rw [hlen]; exact hl, by rw [hlen]; unfold maxLen at hm; omega⟩, ?_, fun h0 => ⟨a, rfl, ?_, fun j hj => ?_⟩⟩
    · intro x hx'
      obtain ⟨z, hz1, rfl⟩ := List.mem_map.1 hx'
      have := hb z (List.mem_of_mem_take hz1)
      omega
    · rw [hlen] at h0
      have hc := hcell 0 (by omega)
      rw [addr_add_zero] at hc
      unfold World.cell? at hc
      rcases Nat.lt_or_ge a.block W.heap.size with h | h
      · exact h
      · rw [Array.getElem?_eq_none h] at hc; cases hc
    · rw [hlen] at hj
      have hjz : j < zs.length := by omega
      have e : lb ((zs.take len).map Int.toNat) j = (zs.getD j 0).toNat := by
        simp [lb, hj, hjz]
      rw [hcell j hjz, e]
      have hmem : zs.getD j 0 ∈ zs := by simp [hjz]
      have := hb _ hmem
      rw [show (((zs.getD j 0).toNat : Nat) : Int) = zs.getD j 0 by omega]
end Go.Proofs.YtkmejhkdmnjbeaaDoor
/- The document's own words that every statement of this stage takes: primes, rows of numbers, lengths. -/
namespace Go.Proofs.YtkmejhkdmnjbeaaDoor
open Go.ChangeShapes Go.WideShapes Go.ChangeAt Go.RowKit
set_option linter.unusedVariables false
set_option maxHeartbeats 400000

theorem i64_and255 (n : Int) : bits .and .i64 n 255 = n % 256 := by
  have h255 : (BitVec.ofInt 64 255).toNat = 2 ^ 8 - 1 := by decide
  have key : (BitVec.ofInt 64 n &&& BitVec.ofInt 64 255).toNat = (n % ((2 ^ 64 : Nat) : Int)).toNat % 2 ^ 8 := by
    rw [BitVec.toNat_and, BitVec.toNat_ofInt, h255, Nat.and_two_pow_sub_one_eq_mod]
  show IntKind.i64.wrap ((BitVec.ofInt 64 n &&& BitVec.ofInt 64 255).toNat : Nat) = n % 256
  rw [key, IntKind.wrap_i64]
  omega

/-- 2^k numbers below p, made of any ones. -/
def rowv (p k : Nat) (l : List Nat) : List Nat := (List.range (2 ^ k)).map fun t => lb l t % p
theorem rowv_len (p k : Nat) (l : List Nat) : (rowv p k l).length = 2 ^ k := by simp [rowv]
theorem lb_rowv (p k : Nat) (l : List Nat) (j : Nat) (h : j < 2 ^ k) : lb (rowv p k l) j = lb l j % p := lb_map _ _ _ h
theorem rowv_lt (p k : Nat) (l : List Nat) (hp : 0 < p) : ∀ x ∈ rowv p k l, x < p := by
  intro x hx
  obtain ⟨j, _, rfl⟩ := List.mem_map.1 hx
  exact Nat.mod_lt _ hp
structure RowI (p n : Nat) (l : List Nat) (t : Nat) (o : List Nat) : Prop where
  len : o.length = n
  lt : ∀ x ∈ o, x < p
  at_ : ∀ j, lb o j = if j < t then lb l j % p else 0
theorem RowI.start (p n : Nat) (l : List Nat) (hp : 0 < p) : RowI p n l 0 (List.replicate n 0) := ⟨by simp, fun x hx => by simp at hx; omega, fun j => by rw [lb_zeros, if_neg (by omega)]⟩
theorem RowI.step {p n : Nat} {l : List Nat} {t : Nat} {o : List Nat} (H : RowI p n l t o) (hp : 0 < p) (ht : t < n) : RowI p n l (t + 1) (o.set t (lb l t % p)) := by
  refine ⟨by simp [H.len], set_lt H.lt (Nat.mod_lt _ hp), fun j => ?_⟩
  rw [lb_set _ _ _ _ (by rw [H.len]; exact ht), H.at_ j]
  by_cases e : t = j
  · subst e; rw [if_pos rfl, if_pos (by omega)]
  · rw [if_neg e]
    by_cases c : j < t
    · rw [if_pos c, if_pos (by omega)]
    · rw [if_neg c, if_neg (by omega)]
theorem RowI.done {p k : Nat} {l : List Nat} {t : Nat} {o : List Nat} (H : RowI p (2 ^ k) l t o) (ht : t = 2 ^ k ∨ l.length ≤ t) : o = rowv p k l := by
  refine ext_lb (by rw [H.len, rowv_len]) fun j hj => ?_
  rw [H.len] at hj
  rw [lb_rowv _ _ _ _ hj, H.at_ j]
  by_cases c : j < t
  · rw [if_pos c]
  · rw [if_neg c, lb_out (o := l) (by omega), Nat.zero_mod]

end Go.Proofs.YtkmejhkdmnjbeaaDoor
/- Lengths of powers of 2; the row of a question; a question among the arguments. -/
namespace Go.Proofs.YtkmejhkdmnjbeaaDoor
open Go.ChangeShapes Go.WideShapes Go.ChangeAt Go.RowKit
set_option linter.unusedVariables false
set_option maxHeartbeats 400000

/-- The prime's number, and how many numbers, that a question names. -/
def ri (I : Int) : Nat := (I % 256).toNat % 3
def rk (K : Int) (m : Nat) : Nat := (K % 256).toNat % (m + 1)
theorem ri_lt (I : Int) : ri I < 3 := Nat.mod_lt _ (by decide)
theorem rk_le (K : Int) (m : Nat) : rk K m ≤ m := by have := Nat.mod_lt (K % 256).toNat (show 0 < m + 1 by omega); unfold rk; omega

theorem keepA {w x y : World} {B : Nat} {v0 v1 v2 v3 : Value} (h : (B < x.heap.size ∧ x.cell? ⟨B, 0, none⟩ = some v0 ∧ x.cell? ⟨B, 1, none⟩ = some v1 ∧ x.cell? ⟨B, 2, none⟩ = some v2 ∧ x.cell? ⟨B, 3, none⟩ = some v3) ∧ Ext w x) (hB : Ext x y) :
    (B < y.heap.size ∧ y.cell? ⟨B, 0, none⟩ = some v0 ∧ y.cell? ⟨B, 1, none⟩ = some v1 ∧ y.cell? ⟨B, 2, none⟩ = some v2 ∧ y.cell? ⟨B, 3, none⟩ = some v3) ∧ Ext w y := by
  obtain ⟨⟨h0, h1, h2, h3, h4⟩, h6⟩ := h
  have hc := fun o => hB.cell (p := ⟨B, o, none⟩) h0
  exact ⟨⟨Nat.lt_of_lt_of_le h0 hB.size, by rw [hc]; exact h1, by rw [hc]; exact h2, by rw [hc]; exact h3, by rw [hc]; exact h4⟩, h6.below hB⟩

/-- The transform, either way. -/
def tfl (i k : Nat) (b : Bool) (l : List Nat) : List Nat := if b then trv (fd i).p (bt (fd i) k) (sh (fd i) (2 ^ k)) (2 ^ k) l else trv (fd i).p (rt (fd i) k) 1 (2 ^ k) l
theorem tfl_len (i k : Nat) (b : Bool) (l : List Nat) : (tfl i k b l).length = 2 ^ k := by unfold tfl; split <;> exact trv_len _ _ _ _ _
theorem tfl_lt (i k : Nat) (b : Bool) (l : List Nat) : ∀ x ∈ tfl i k b l, x < (fd i).p := by
  have := (fd_fld i).good.p0
  unfold tfl; split
  · exact trv_lt _ _ _ _ _ (by omega)
  · exact trv_lt _ _ _ _ _ (by omega)
theorem open_limbs1 {H : Type} {enc : TypeId × Value → H} {W : World} {fuel : Nat} {v : Value} {y : DataW H × List MemPlace} (hf : DataW.trod enc Tryd.prog W 0 (fun _ => true) true fuel 22 [v] = some y) :
    ∃ xs : List Nat, U W v xs := by
  rcases open_ints Tryd.underlying22 Tryd.underlying35 cells32 hf with ⟨hcs, hx⟩ | ⟨a, len, cap', zs, hcs, _, hl, hm, hz, hx, hcell, hwz⟩
  · simp at hcs
    subst hcs
    exact ⟨[], U.nil_ _ _ _⟩
  · simp at hcs
    subst hcs
    simp only [if_true] at hz
    have hlen : ((zs.take len).map Int.toNat).length = len := by simp; omega
    have hb : ∀ z ∈ zs, 0 ≤ z ∧ z < 4294967296 := fun z hzz => by have := bounds_u32 (hwz z hzz); omega
    refine ⟨(zs.take len).map Int.toNat, some a, cap', by rw [hlen], ⟨by rw [hlen]; exact hl, by rw [hlen]; unfold maxLen at hm; omega⟩, ?_, fun h0 => ⟨a, rfl, ?_, fun j hj => ?_⟩⟩
    · intro x hx'
      obtain ⟨z, hz1, rfl⟩ := List.mem_map.1 hx'
      have := hb z (List.mem_of_mem_take hz1)
      omega
    · rw [hlen] at h0
      have hc := hcell 0 (by omega)
      rw [addr_add_zero] at hc
      unfold World.cell? at hc
      rcases Nat.lt_or_ge a.block W.heap.size with h | h
      · exact h
      · rw [Array.getElem?_eq_none h] at hc; cases hc
    · rw [hlen] at hj
      have hjz : j < zs.length := by omega
      have e : lb ((zs.take len).map Int.toNat) j = (zs.getD j 0).toNat := by
        simp [lb, hj, hjz]
      rw [hcell j hjz, e]
      have hmem : zs.getD j 0 ∈ zs := by simp [hjz]
      have := hb _ hmem
      rw [show (((zs.getD j 0).toNat : Nat) : Int) = zs.getD j 0 by omega]

end Go.Proofs.YtkmejhkdmnjbeaaDoor
/- What a transform undoes, turns, and does to sums and products. -/
namespace Go.Proofs.YtkmejhkdmnjbeaaDoor

theorem dft_add (w : Int) (n : Nat) (a b : Nat → Int) (q : Nat) : dft w n (fun i => a i + b i) q = dft w n a q + dft w n b q := by
  unfold dft; rw [← sm_add]; exact sm_congr fun i _ => Int.add_mul _ _ _
theorem dft_mul (w : Int) (n : Nat) (c : Int) (a : Nat → Int) (q : Nat) : dft w n (fun i => c * a i) q = c * dft w n a q := by
  unfold dft; rw [← sm_mul]; exact sm_congr fun i _ => Int.mul_assoc _ _ _
theorem dft_eqm {p w : Int} {n : Nat} {a b : Nat → Int} {q : Nat} (h : ∀ i, i < n → Eqm p (a i) (b i)) : Eqm p (dft w n a q) (dft w n b q) := Eqm.sm fun i hi => (h i hi).mul (Eqm.refl _ _)
theorem mul_pow (a b : Int) (n : Nat) : (a * b) ^ n = a ^ n * b ^ n := by
  induction n with
  | zero => simp
  | succ n ih => rw [Int.pow_succ, Int.pow_succ, Int.pow_succ, ih]; grind
/-- There and back. -/
theorem dft_back {p w v : Int} {k : Nat} (hw : Rt p w k) (hv : Rt p v k) (hwv : Eqm p (w * v) 1) (l : Nat → Int) (t : Nat) (ht : t < 2 ^ k) :
    Eqm p (dft v (2 ^ k) (fun j => dft w (2 ^ k) l j) t) ((2 ^ k : Nat) * l t) := by
  have e1 : dft v (2 ^ k) (fun j => dft w (2 ^ k) l j) t = sm (2 ^ k) fun i => l i * sm (2 ^ k) fun j => (w ^ i * v ^ t) ^ j := by
    unfold dft
    rw [sm_congr (g := fun j => sm (2 ^ k) fun i => l i * (w ^ i * v ^ t) ^ j) (fun j _ => by
      rw [← sm_mul']; exact sm_congr fun i _ => by rw [mul_pow, ← Int.pow_mul, ← Int.pow_mul, Int.mul_assoc, Nat.mul_comm t j])]
    rw [sm_swap]
    exact sm_congr fun i _ => sm_mul _ _ _
  rw [e1]
  have hp : ∀ m, Eqm p (w ^ m * v ^ m) 1 := fun m => by rw [← mul_pow]; have := hwv.pow m; rwa [Int.one_pow] at this
  have key : ∀ i, i < 2 ^ k → Eqm p (l i * sm (2 ^ k) fun j => (w ^ i * v ^ t) ^ j) (if i = t then (2 ^ k : Nat) * l t else 0) := by
    intro i hi
    by_cases e : i = t
    · subst e
      rw [if_pos rfl, Int.mul_comm]
      refine Eqm.mul ?_ (Eqm.refl _ _)
      refine (Eqm.sm (g := fun _ => 1) fun j _ => ?_).trans (Eqm.of_eq ?_)
      · have := (hp i).pow j; rwa [Int.one_pow] at this
      · rw [sm_const, Int.mul_one]
    · rw [if_neg e]
      have h0 : Eqm p (sm (2 ^ k) fun j => (w ^ i * v ^ t) ^ j) 0 := by
        rcases Nat.lt_or_ge t i with h | h
        · have e2 : Eqm p (w ^ i * v ^ t) (w ^ (i - t)) := by
            rw [show w ^ i = w ^ (i - t) * w ^ t by rw [← Int.pow_add]; congr 1; omega, Int.mul_assoc]
            have := (Eqm.refl p (w ^ (i - t))).mul (hp t); rwa [Int.mul_one] at this
          refine (Eqm.sm fun j _ => e2.pow j).trans (geo p w k (i - t) hw ?_)
          intro hd
          have := Nat.le_of_dvd (by omega) hd
          omega
        · have e2 : Eqm p (w ^ i * v ^ t) (v ^ (t - i)) := by
            rw [show v ^ t = v ^ i * v ^ (t - i) by rw [← Int.pow_add]; congr 1; omega, ← Int.mul_assoc]
            have := (hp i).mul (Eqm.refl p (v ^ (t - i))); rwa [Int.one_mul] at this
          refine (Eqm.sm fun j _ => e2.pow j).trans (geo p v k (t - i) hv ?_)
          intro hd
          have := Nat.le_of_dvd (by omega) hd
          omega
      have := (Eqm.refl p (l i)).mul h0
      rwa [Int.mul_zero] at this
  refine (Eqm.sm key).trans (Eqm.of_eq ?_)
  rw [sm_pick _ _ t ht (fun i _ hne => by rw [if_neg hne]), if_pos rfl]
/-- Turned by one place. -/
theorem dft_turn {p w : Int} {n : Nat} (hw : Eqm p (w ^ (n + 1)) 1) (l m : Nat → Int) (h0 : m 0 = l n) (h1 : ∀ i, i < n → m (i + 1) = l i) (q : Nat) :
    Eqm p (dft w (n + 1) m q) (dft w (n + 1) l q * w ^ q) := by
  have e1 : dft w (n + 1) m q = l n + sm n fun i => l i * w ^ ((i + 1) * q) := by
    unfold dft
    rw [show n + 1 = 1 + n by omega, sm_split, sm_one, h0]
    simp only [Nat.zero_mul, Int.pow_zero, Int.mul_one]
    congr 1
    exact sm_congr fun i hi => by rw [show 1 + i = i + 1 by omega, h1 i hi]
  have e2 : dft w (n + 1) l q * w ^ q = (sm n fun i => l i * w ^ ((i + 1) * q)) + l n * w ^ ((n + 1) * q) := by
    unfold dft
    rw [sm_succ, Int.add_mul, ← sm_mul']
    congr 1
    · exact sm_congr fun i _ => by rw [Int.mul_assoc, ← Int.pow_add, Nat.add_mul, Nat.one_mul]
    · rw [Int.mul_assoc, ← Int.pow_add, Nat.add_mul, Nat.one_mul]
  rw [e1, e2, Int.add_comm]
  refine (Eqm.refl p _).add ?_
  have := (Eqm.refl p (l n)).mul (pow_even hw q)
  rw [Int.mul_one] at this
  exact this.symm
/-- The product of transforms, all around. -/
theorem dft_around {p w : Int} {n : Nat} (hw : Eqm p (w ^ n) 1) (a b : Nat → Int) (q : Nat) :
    Eqm p (dft w n a q * dft w n b q) (dft w n (fun k => sm n fun t => a t * b ((k + n - t) % n)) q) := by
  have e1 : dft w n a q * dft w n b q = sm n fun t => a t * w ^ (t * q) * dft w n b q := by
    rw [sm_mul']; rfl
  have e2 : dft w n (fun k => sm n fun t => a t * b ((k + n - t) % n)) q = sm n fun t => a t * w ^ (t * q) * 0 + a t * sm n fun k => b ((k + n - t) % n) * w ^ (k * q) := by
    unfold dft
    rw [sm_congr (g := fun k => sm n fun t => a t * (b ((k + n - t) % n) * w ^ (k * q))) (fun k _ => by rw [← sm_mul']; exact sm_congr fun t _ => Int.mul_assoc _ _ _)]
    rw [sm_swap]
    exact sm_congr fun t _ => by rw [sm_mul, Int.mul_zero, Int.zero_add]
  rw [e1, e2]
  refine Eqm.sm fun t ht => ?_
  rw [Int.mul_zero, Int.zero_add, Int.mul_assoc]
  refine (Eqm.refl p (a t)).mul ?_
  -- the places from t on stand first
  have hs : sm n (fun k => b ((k + n - t) % n) * w ^ (k * q)) = sm t (fun k => b (k + (n - t)) * w ^ (k * q)) + sm (n - t) (fun i => b i * w ^ ((t + i) * q)) := by
    have hn : n = t + (n - t) := by omega
    conv => lhs; rw [hn]
    rw [sm_split]
    rw [← hn]
    congr 1
    · exact sm_congr fun k hk => by rw [show k + n - t = k + (n - t) by omega, Nat.mod_eq_of_lt (by omega)]
    · exact sm_congr fun i hi => by rw [show t + i + n - t = i + n by omega, Nat.add_mod_right, Nat.mod_eq_of_lt (by omega)]
  have hd : w ^ (t * q) * dft w n b q = sm (n - t) (fun i => b i * w ^ ((t + i) * q)) + sm t (fun k => b (n - t + k) * w ^ ((n + k) * q)) := by
    unfold dft
    rw [← sm_mul]
    have hn : n = (n - t) + t := by omega
    conv => lhs; rw [hn]
    rw [sm_split]
    congr 1
    · exact sm_congr fun i hi => by
        rw [show w ^ (t * q) * (b i * w ^ (i * q)) = b i * (w ^ (t * q) * w ^ (i * q)) by grind, ← Int.pow_add, Nat.add_mul]
    · exact sm_congr fun i hi => by
        rw [show w ^ (t * q) * (b (n - t + i) * w ^ ((n - t + i) * q)) = b (n - t + i) * (w ^ (t * q) * w ^ ((n - t + i) * q)) by grind, ← Int.pow_add, ← Nat.add_mul, show t + (n - t + i) = n + i by omega]
  rw [hs, hd, Int.add_comm]
  refine Eqm.add (Eqm.sm fun k hk => ?_) (Eqm.refl _ _)
  rw [Nat.add_comm k]
  refine (Eqm.refl p _).mul ?_
  rw [Nat.add_mul, Nat.add_comm]
  exact pow_mul_one hw _ _
end Go.Proofs.YtkmejhkdmnjbeaaDoor
/- What the transform does, number by number. -/
namespace Go.Proofs.YtkmejhkdmnjbeaaDoor
open Go.RowKit
set_option linter.unusedVariables false

/-- The root and the share, either way. -/
def tw (i k : Nat) (b : Bool) : Nat := if b then bt (fd i) k else rt (fd i) k
def ts (i k : Nat) (b : Bool) : Nat := if b then sh (fd i) (2 ^ k) else 1
theorem tfl_eq (i k : Nat) (b : Bool) (l : List Nat) : tfl i k b l = trv (fd i).p (tw i k b) (ts i k b) (2 ^ k) l := by cases b <;> rfl
theorem tfl_eqm (i k : Nat) (b : Bool) (l : List Nat) (j : Nat) (hj : j < 2 ^ k) : Eqm ((fd i).p : Int) (seq (tfl i k b l) j) ((ts i k b : Nat) * dft ((tw i k b : Nat) : Int) (2 ^ k) (seq l) j) := by
  unfold seq
  rw [tfl_eq, lb_trv _ _ _ _ _ _ hj]
  exact dv_eqm _ _ _ _ _ _
theorem tw_rt (i k : Nat) (b : Bool) (hk : k ≤ 20) : Rt ((fd i).p : Int) ((tw i k b : Nat) : Int) k := by
  cases b
  · exact (fd_fld i).rt hk
  · exact (fd_fld i).bt hk
theorem tw_inv (i k : Nat) (b : Bool) : Eqm ((fd i).p : Int) (((tw i k b : Nat) : Int) * ((tw i k (!b) : Nat) : Int)) 1 := by
  cases b
  · exact (fd_fld i).wv k
  · rw [Int.mul_comm]; exact (fd_fld i).wv k
theorem ts_inv (i k : Nat) (b : Bool) : Eqm ((fd i).p : Int) (((ts i k b : Nat) : Int) * ((ts i k (!b) : Nat) : Int) * ((2 ^ k : Nat) : Int)) 1 := by
  have := (fd_fld i).share k
  cases b
  · show Eqm _ (((1 : Nat) : Int) * ((sh (fd i) (2 ^ k) : Nat) : Int) * ((2 ^ k : Nat) : Int)) 1
    rw [Int.natCast_one, Int.one_mul, Int.mul_comm]; exact this
  · show Eqm _ (((sh (fd i) (2 ^ k) : Nat) : Int) * ((1 : Nat) : Int) * ((2 ^ k : Nat) : Int)) 1
    rw [Int.natCast_one, Int.mul_one, Int.mul_comm]; exact this
theorem seq_cast (l : List Nat) (j : Nat) : seq l j = ((lb l j : Nat) : Int) := rfl
/-- There and back. -/
theorem tfl_back (i k : Nat) (b : Bool) (l : List Nat) (hk : k ≤ 20) (hl : l.length = 2 ^ k) (hlt : ∀ x ∈ l, x < (fd i).p) : tfl i k (!b) (tfl i k b l) = l := by
  have p0 := (fd_fld i).good.p0
  refine ext_lb (by rw [tfl_len, hl]) fun t ht => ?_
  rw [tfl_len] at ht
  have h1 := tfl_eqm i k (!b) (tfl i k b l) t ht
  have h2 : Eqm ((fd i).p : Int) (dft ((tw i k (!b) : Nat) : Int) (2 ^ k) (seq (tfl i k b l)) t) ((ts i k b : Nat) * ((2 ^ k : Nat) * seq l t)) := by
    refine (dft_eqm fun j hj => tfl_eqm i k b l j hj).trans ?_
    rw [dft_mul]
    refine (Eqm.refl _ _).mul (dft_back (tw_rt i k b hk) (tw_rt i k (!b) hk) (tw_inv i k b) _ t ht)
  have h3 : Eqm ((fd i).p : Int) (seq (tfl i k (!b) (tfl i k b l)) t) (seq l t) := by
    refine h1.trans (((Eqm.refl _ _).mul h2).trans ?_)
    have h4 := (ts_inv i k b).mul (Eqm.refl ((fd i).p : Int) (seq l t))
    rw [Int.one_mul] at h4
    refine Eqm.trans (Eqm.of_eq ?_) h4
    grind
  exact h3.eq (lb_lt_of (by omega) (tfl_lt _ _ _ _) _) (lb_lt_of (by omega) hlt _)
/-- Each number times one, and others added. -/
theorem tfl_lines (i k : Nat) (b : Bool) (l m o : List Nat) (by_ : Nat) (ho : ∀ j, j < 2 ^ k → lb o j = (lb l j * by_ + lb m j) % (fd i).p) (j : Nat) (hj : j < 2 ^ k) :
    lb (tfl i k b o) j = (lb (tfl i k b l) j % (fd i).p * (by_ % (fd i).p) + lb (tfl i k b m) j) % (fd i).p := by
  have p0 := (fd_fld i).good.p0
  have h1 : Eqm ((fd i).p : Int) (seq (tfl i k b o) j) (seq (tfl i k b l) j * (by_ : Int) + seq (tfl i k b m) j) := by
    refine (tfl_eqm i k b o j hj).trans ?_
    have h2 : Eqm ((fd i).p : Int) (dft ((tw i k b : Nat) : Int) (2 ^ k) (seq o) j) ((by_ : Int) * dft ((tw i k b : Nat) : Int) (2 ^ k) (seq l) j + dft ((tw i k b : Nat) : Int) (2 ^ k) (seq m) j) := by
      rw [← dft_mul, ← dft_add]
      refine dft_eqm fun q hq => ?_
      rw [seq_cast, ho q hq]
      refine (Eqm.nat_mod _ _).trans (Eqm.of_eq ?_)
      rw [Int.natCast_add, Int.natCast_mul, seq_cast, seq_cast, Int.mul_comm]
    refine ((Eqm.refl _ _).mul h2).trans ?_
    have h3 := ((tfl_eqm i k b l j hj).mul (Eqm.refl _ (by_ : Int))).add (tfl_eqm i k b m j hj)
    refine Eqm.trans (Eqm.of_eq ?_) h3.symm
    grind
  refine h1.trans ?_ |>.eq (lb_lt_of (by omega) (tfl_lt _ _ _ _) _) (Nat.mod_lt _ (by omega))
  refine Eqm.symm ((Eqm.nat_mod _ _).trans ?_)
  rw [Int.natCast_add, Int.natCast_mul]
  exact ((Eqm.nat_mod _ _).mul (Eqm.nat_mod _ _)).add (Eqm.refl _ _)
/-- Turned by one place. -/
theorem tfl_turn (i k : Nat) (l m : List Nat) (hk : k ≤ 20) (h0 : lb m 0 = lb l (2 ^ k - 1)) (h1 : ∀ j, j + 1 < 2 ^ k → lb m (j + 1) = lb l j) (r : Nat) (hr : rt (fd i) k % (fd i).p = r) (j : Nat) (hj : j < 2 ^ k) :
    lb (tfl i k false m) j = lb (tfl i k false l) j * (r ^ j % (fd i).p) % (fd i).p := by
  have p0 := (fd_fld i).good.p0
  have hn := Nat.two_pow_pos k
  obtain ⟨n, hn2⟩ : ∃ n, 2 ^ k = n + 1 := ⟨2 ^ k - 1, by omega⟩
  have hw := (tw_rt i k false hk).1
  have e1 := tfl_eqm i k false m j hj
  have e2 := tfl_eqm i k false l j hj
  have ht := dft_turn (p := ((fd i).p : Int)) (w := ((tw i k false : Nat) : Int)) (n := n) (by rw [← hn2]; exact hw) (seq l) (seq m) (by rw [seq_cast, seq_cast, h0, show 2 ^ k - 1 = n by omega]) (fun q hq => by rw [seq_cast, seq_cast, h1 q (by omega)]) j
  rw [← hn2] at ht
  have hr1 : Eqm ((fd i).p : Int) ((r : Nat) : Int) ((tw i k false : Nat) : Int) := by rw [← hr]; exact Eqm.nat_mod _ _
  have h2 : Eqm ((fd i).p : Int) (seq (tfl i k false m) j) (seq (tfl i k false l) j * (r : Int) ^ j) := by
    refine e1.trans (((Eqm.refl _ _).mul ht).trans ?_)
    rw [← Int.mul_assoc]
    exact (e2.mul (hr1.pow j)).symm
  refine h2.trans ?_ |>.eq (lb_lt_of (by omega) (tfl_lt _ _ _ _) _) (Nat.mod_lt _ (by omega))
  refine Eqm.symm ((Eqm.nat_mod _ _).trans ?_)
  rw [Int.natCast_mul]
  refine (Eqm.refl _ _).mul ((Eqm.nat_mod _ _).trans ?_)
  rw [Int.natCast_pow]; exact Eqm.refl _ _
/-- The sum of products all around. -/
def arv (p n : Nat) (l m : List Nat) (k : Nat) : Nat := nsum n (fun t => lb l t * lb m ((k + n - t) % n)) % p
theorem tfl_around (i k : Nat) (l m o : List Nat) (hk : k ≤ 20) (ho : ∀ j, j < 2 ^ k → lb o j = lb (tfl i k false l) j * lb (tfl i k false m) j % (fd i).p) (j : Nat) (hj : j < 2 ^ k) :
    lb (tfl i k true o) j = arv (fd i).p (2 ^ k) l m j := by
  have p0 := (fd_fld i).good.p0
  let c : List Nat := (List.range (2 ^ k)).map (arv (fd i).p (2 ^ k) l m)
  have hc : ∀ q, q < 2 ^ k → lb c q = arv (fd i).p (2 ^ k) l m q := fun q hq => lb_map _ _ _ hq
  have hcl : c.length = 2 ^ k := by simp [c]
  have hclt : ∀ x ∈ c, x < (fd i).p := by
    intro x hx
    obtain ⟨q, _, rfl⟩ := List.mem_map.1 hx
    exact Nat.mod_lt _ (by omega)
  have hcs : ∀ q, q < 2 ^ k → Eqm ((fd i).p : Int) (seq c q) (sm (2 ^ k) fun t => seq l t * seq m ((q + 2 ^ k - t) % 2 ^ k)) := fun q hq => by
    rw [seq_cast, hc q hq]
    unfold arv
    refine (Eqm.nat_mod _ _).trans (Eqm.of_eq ?_)
    rw [nsum_cast]
    exact sm_congr fun t _ => by rw [Int.natCast_mul]; rfl
  have e : tfl i k false c = (List.range (2 ^ k)).map (fun q => lb o q % (fd i).p) := by
    refine ext_lb (by rw [tfl_len]; simp) fun q hq => ?_
    rw [tfl_len] at hq
    rw [lb_map _ _ _ hq]
    have h1 : Eqm ((fd i).p : Int) (seq (tfl i k false c) q) ((lb o q : Nat) : Int) := by
      rw [ho q hq]
      refine Eqm.trans ?_ (Eqm.nat_mod _ _).symm
      rw [Int.natCast_mul]
      have h2 := tfl_eqm i k false c q hq
      have h3 := tfl_eqm i k false l q hq
      have h4 := tfl_eqm i k false m q hq
      simp only [show ts i k false = 1 from rfl, Int.natCast_one, Int.one_mul] at h2 h3 h4
      refine h2.trans (Eqm.trans ?_ (h3.mul h4).symm)
      exact (dft_eqm hcs).trans (dft_around (tw_rt i k false hk).1 _ _ _).symm
    exact (h1.trans (Eqm.nat_mod _ _).symm).eq (lb_lt_of (by omega) (tfl_lt _ _ _ _) _) (Nat.mod_lt _ (by omega))
  have e2 : tfl i k true o = tfl i k true (tfl i k false c) := by
    rw [tfl_eq, tfl_eq]
    unfold trv
    refine List.map_congr_left fun q hq => ?_
    unfold dv
    refine congrArg (· % _) (congrArg (_ * ·) (nsum_congr fun t ht => ?_))
    rw [e, lb_map _ _ _ ht, ho t ht, Nat.mod_mod]
  have hb := tfl_back i k false c hk hcl hclt
  rw [show (!false) = true from rfl] at hb
  rw [e2, hb, hc j hj]
end Go.Proofs.YtkmejhkdmnjbeaaDoor
/- A question in its box; slices opened. -/
namespace Go.Proofs.YtkmejhkdmnjbeaaDoor
open Go.RowKit
set_option linter.unusedVariables false
set_option maxHeartbeats 400000

def Ax (w : World) (B : Nat) (I K : Int) (sl : Value) (bk : Bool) : Prop := B < w.heap.size ∧ w.cell? ⟨B, 0, none⟩ = some (.int .i64 I) ∧ w.cell? ⟨B, 1, none⟩ = some (.int .i64 K) ∧ w.cell? ⟨B, 2, none⟩ = some sl ∧ w.cell? ⟨B, 3, none⟩ = some (.bool bk)
theorem Ax.ext {w w' : World} {B : Nat} {I K : Int} {sl : Value} {bk : Bool} (h : Ax w B I K sl bk) (hB : Ext w w') : Ax w' B I K sl bk := by
  obtain ⟨h0, h1, h2, h3, h4⟩ := h
  have hs := hB.size
  have hc := fun o => hB.cell (p := ⟨B, o, none⟩) h0
  exact ⟨by omega, by rw [hc]; exact h1, by rw [hc]; exact h2, by rw [hc]; exact h3, by rw [hc]; exact h4⟩
theorem U.opened {w : World} {v : Value} {xs : List Nat} (h : U w v xs) {n : Nat} (hn : xs.length = n) (h0 : 0 < n) : ∃ ad c, v = .slice (some ad) n c ∧ n ≤ c ∧ ad.block < w.heap.size ∧ ∀ j, j < n → w.cell? (ad.add j) = some (.int .u32 (lb xs j : Nat)) := by
  obtain ⟨A, c, rfl, ⟨hc, _⟩, _, hr⟩ := h
  subst hn
  obtain ⟨ad, rfl, hb, hcell⟩ := hr h0
  exact ⟨ad, c, rfl, hc, hb, hcell⟩
end Go.Proofs.YtkmejhkdmnjbeaaDoor
/- A row that grows while others lie by. -/
namespace Go.Proofs.YtkmejhkdmnjbeaaDoor
open Go.RowKit
set_option linter.unusedVariables false
set_option maxHeartbeats 400000

/-- A row in block B or in one that is new. -/
structure Apart (B : Nat) (w0 w : World) (v : Value) (o : List Nat) : Prop where
  own : Own w B v o
  but : But B w0 w
  at_ : ∀ g, v.ownBlock = some g → g = B ∨ w0.heap.size ≤ g
theorem Apart.drew {B : Nat} {w0 w : World} {v : Value} {o : List Nat} (h : Apart B w0 w v o) : Apart B w0 w.drew v o := ⟨h.own.drew, h.but.drew, h.at_⟩
theorem Apart.cell {B : Nat} {w0 w : World} {v : Value} {o : List Nat} (h : Apart B w0 w v o) {p : Addr} (hp : p.block < w0.heap.size) (hne : p.block ≠ B) : w.cell? p = w0.cell? p := h.but.cell hp hne
theorem push_apart {w0 w : World} {B : Nat} (hB0 : B ≤ w0.heap.size) {v : Value} {o : List Nat} (h : Apart B w0 w v o) (z : Int) (x : Nat) (hz : z = (x : Int)) (hx : x < 4294967296) (hlen : o.length + 1 ≤ 35184372088832) :
    ∃ v' w', (Builtin.append_ #[22, 22] 22 #[v, .slice (some ⟨w.heap.size, 0, none⟩) 1 1]).run Tryd.prog (w.alloc (.cells #[.int .u32 z] 35)) = .ok v' w' ∧ Apart B w0 w' v' (o ++ [x]) := by
  subst hz
  obtain ⟨i0, hi, hz0, hz1, hz2⟩ := info_parts info32
  have hs := h.but.size
  have hu : U (w.alloc (.cells #[.int .u32 (x : Int)] 35)) (.slice (some ⟨w.heap.size, 0, none⟩) 1 1) [x] := U_lit w [x] (by simpa using hx) (by simp)
  obtain ⟨ad, c, e1, _, _, hcell⟩ := hu.opened (n := 1) rfl (by decide)
  injection e1 with e1 _ _
  injection e1 with e1
  obtain ⟨v', w', hrun, hown', hg, _, hat⟩ := run_append_own_at (P := Tryd.prog) (w.alloc (.cells #[.int .u32 (x : Int)] 35)) B 22 22 35 i0 (.int .u32 0) 1 4 Tryd.underlying22 hi hz0 hz1 hz2 rfl (by decide) v o.length (L32 o) (World.ownsRow.alloc h.own _) ⟨w.heap.size, 0, none⟩ 1 1 (L32 [x]) rfl
    (fun j u hj => by
      have hj1 : j < 1 := by
        rcases Nat.lt_or_ge j 1 with h | h
        · exact h
        · rw [List.getElem?_eq_none (by rw [L32_length]; exact h)] at hj; cases hj
      rw [e1, hcell j hj1, ← L32_get [x] hj1, hj])
    (by intro u hu; obtain ⟨z, _, rfl⟩ := List.mem_map.1 hu; rfl) (by unfold maxLen; omega) (by omega) (by simp; omega)
  refine ⟨v', w', hrun, ⟨by unfold Own; rw [L32_append, List.length_append]; exact hown', ?_, ?_⟩⟩
  · have h1 : But B w0 (w.alloc (.cells #[.int .u32 (x : Int)] 35)) := h.but.ext ((Ext.refl w).alloc _)
    refine ⟨hg.os.trans h1.os, hg.tape.trans h1.tape, hg.output.trans h1.output, Nat.le_trans h1.size hg.size, fun i hi hne => (hg.block i (Nat.lt_of_lt_of_le hi h1.size) (fun e => ?_)).trans (h1.block i hi hne)⟩
    rcases h.at_ i e.symm with e | e
    · exact hne (by rw [e])
    · omega
  · intro g hgv
    rcases hat with e | e
    · exact h.at_ g (e ▸ hgv)
    · rw [hgv] at e
      injection e with e
      right; rw [e]; simp; omega
theorem bare_cell (w : World) (p : Addr) (t : TypeId) (h : w.heap[p.block]? = some (.cells #[] t)) : w.cell? p = none := by
  unfold World.cell?; simp [h]
end Go.Proofs.YtkmejhkdmnjbeaaDoor
/- A row laid in, modulo a prime, and down. -/
namespace Go.Proofs.YtkmejhkdmnjbeaaDoor
open Go.RowKit
set_option linter.unusedVariables false
set_option maxHeartbeats 400000

/-- The numbers, times 2^32, and noughts behind them. -/
def ml (f : Fd) (n : Nat) (l : List Nat) : List Nat := (List.range n).map fun j => mont f (lb l j)
theorem ml_len (f : Fd) (n : Nat) (l : List Nat) : (ml f n l).length = n := by simp [ml]
theorem ml_at (f : Fd) (n : Nat) (l : List Nat) (j : Nat) (h : j < n) : lb (ml f n l) j = mont f (lb l j) := lb_map _ _ _ h
theorem ml_lt (f : Fd) (hf : Good f) (n : Nat) (l : List Nat) : ∀ x ∈ ml f n l, x < f.p := by
  intro x hx
  obtain ⟨q, _, rfl⟩ := List.mem_map.1 hx
  exact mont_lt f hf _
structure MlI (f : Fd) (n : Nat) (l : List Nat) (j : Nat) (o : List Nat) : Prop where
  len : o.length = n
  lt : ∀ x ∈ o, x < f.p
  at_ : ∀ q, lb o q = if q < j then mont f (lb l q) else 0
theorem MlI.start (f : Fd) (hf : Good f) (n : Nat) (l : List Nat) : MlI f n l 0 (List.replicate n 0) :=
  ⟨by simp, fun x hx => by have := hf.p0; rw [List.eq_of_mem_replicate hx]; omega, fun q => by rw [lb_zeros, if_neg (by omega)]⟩
theorem MlI.step {f : Fd} (hf : Good f) {n : Nat} {l : List Nat} {j : Nat} {o : List Nat} (H : MlI f n l j o) (hj : j < n) : MlI f n l (j + 1) (o.set j (mont f (lb l j))) := by
  refine ⟨by simp [H.len], set_lt H.lt (mont_lt f hf _), fun q => ?_⟩
  rw [lb_set _ _ _ _ (by rw [H.len]; exact hj)]
  by_cases e : j = q
  · subst e; rw [if_pos rfl, if_pos (by omega)]
  · rw [if_neg e, H.at_ q]
    by_cases c : q < j
    · rw [if_pos c, if_pos (by omega)]
    · rw [if_neg c, if_neg (by omega)]
theorem lb_past (l : List Nat) (j : Nat) (h : l.length ≤ j) : lb l j = 0 := by unfold lb; rw [List.getElem?_eq_none h]; rfl
theorem mont_zero (f : Fd) : mont f 0 = 0 := by unfold mont; rw [Nat.zero_mul, Nat.zero_mod]
theorem MlI.done {f : Fd} {n : Nat} {l : List Nat} {o : List Nat} (H : MlI f n l l.length o) : o = ml f n l := by
  refine ext_lb (by rw [H.len, ml_len]) fun q hq => ?_
  rw [ml_at f n l q (by rw [← H.len]; exact hq), H.at_ q]
  by_cases c : q < l.length
  · rw [if_pos c]
  · rw [if_neg c, lb_past l q (by omega), mont_zero]

set_option maxRecDepth 100000 in
set_option maxHeartbeats 4000000 in
theorem load_calls (w : World) (f : Fd) (hf : Good f) (k n W Bn Bf Bq q : Nat) (pw : List Nat) (hn : 2 ^ k = n) (hk : k ≤ 20) (hr : Rt f.p W k) (hp : Pw f k W pw) (hq : Rd w q pw)
    (h1 : Bn < w.heap.size ∧ w.cell? ⟨Bn, 0, none⟩ = some (.int .i64 (n : Nat))) (h2 : Bx w Bf f) (h3 : Bq < w.heap.size ∧ w.cell? ⟨Bq, 0, none⟩ = some (.slice (some ⟨q, 0, none⟩) pw.length pw.length))
    (v : Value) (l : List Nat) (hu : U w v l) (hl : l.length ≤ n) :
    Calls Tryd.prog 72 #[v, .pointer (some ⟨Bn, 0, none⟩), .pointer (some ⟨Bf, 0, none⟩), .pointer (some ⟨Bq, 0, none⟩)] w fun e w' => (∃ g o, e = .returned (.slice (some ⟨g, 0, none⟩) n n) ∧ DownL f k W (ml f n l) 0 o ∧ Own w' w.heap.size (.slice (some ⟨g, 0, none⟩) n n) o) ∧ Ext w w' := by
  have p0 := hf.p0
  have p1 := hf.p1
  have hn1 : n ≤ 1048576 := by rw [← hn]; exact Nat.pow_le_pow_right (by decide) hk
  have hn0 : 0 < n := by rw [← hn]; exact Nat.two_pow_pos k
  obtain ⟨A, c, rfl, ⟨hc1, hc2⟩, hx, hrd⟩ := id hu
  have HN := Lib.hid hn
  obtain ⟨i0, hi, hz0, hz1, hz2⟩ := info_parts info32
  obtain ⟨hn3, hn4⟩ := h1
  obtain ⟨hq3, hq4⟩ := h3
  clear hn
  obtain ⟨L, hLL⟩ : ∃ L, l.length = L := ⟨_, rfl⟩
  have HL := Lib.hid hLL
  rw [hLL] at hl hc1 hc2 hu hrd ⊢
  clear hLL
  go_enter Tryd.func72, Tryd.ntmps72
  go_wp2_with (at_make; refine wpList_make_full _ rfl _ _ 22 rfl w.heap.size 35 i0 (.int .u32 0) 1 Tryd.underlying22 hi hz0 hz1 _ _ _ _ n rfl rfl (by omega) (by omega) (by rw [hz2]; omega) (by unfold maxLen; omega) (by simp) ?_; intro w1 hown hgrow)
  have ho0 := Own.zeros hown
  have hB0 : Ext w w1 := (Ext.refl w).grown hgrow (by simp) (fun _ h => by cases h)
  clear hown hgrow
  rw [List.length_replicate] at ho0
  clear hi hz0 hz1 hz2 i0 hu
  go_loopw [13] (fun t wr => ∃ (j : Nat) (o : List Nat), j ≤ L ∧ t = .int .i64 (j : Nat) ∧ Hid (MlI f n l j o) ∧ Own wr w.heap.size (.slice (some ⟨w.heap.size, 0, none⟩) n n) o ∧ Ext w wr) (fun t _ => L - (intOf t).toNat)
  case atStart => exact ⟨0, _, Nat.zero_le _, rfl, MlI.start f hf n l, ho0, hB0⟩
  case round =>
    clear ho0 hB0
    obtain ⟨j, o, hj, rfl, HO, hown, hE⟩ := hrel
    by_cases hlt : j < L
    · obtain ⟨ad, rfl, hb, hcell⟩ := hrd (by omega)
      have hc1 := (hE.cell (p := ad.add j) (by rw [addr_add_block]; exact hb)).trans (hcell j hlt)
      have HST := Lib.hid (HO.out.step hf (j := j) (by omega))
      have hx1 := lb_lt hx j
      obtain ⟨b0, b1, b2, b3, b4, b5⟩ := h2.ext hE
      generalize lb l j = x at *
      have hj0 : (0 : Int) ≤ (j : Int) := by omega
      have hj1 : (j : Int) < (L : Int) := by omega
      have hj2 : (j : Int) < (n : Int) := by omega
      have hoL := HO.out.len
      clear hrd hcell hn4 hq4 HO
      go_wp2_with (fail)
      refine (in_calls _ f hf x hx1).mono ?_
      rintro e w3 ⟨rfl, hB3⟩
      have hm := mont_lt f hf x
      replace hown := hown.ext hB3
      replace hE := hE.below hB3
      have hs := hown.set' j (mont f x)
      have hfr := Own.frozen (c := n) (by rw [hoL]; exact hown) j
      have hcl := Own.cell (c := n) (j := j) (by rw [hoL]; exact hown) (by omega)
      have hE2 : Ext w (w3.setCell ⟨w.heap.size, j, none⟩ (.int .u32 (mont f x : Nat))) := hE.setCell (by simp) _
      generalize mont f x = Y at *
      clear b0 b1 b2 b3 b4 b5 hown hE hc1 hB3
      go_wp2_with (fail)
      go_roundw
      case rel => exact ⟨j + 1, _, by omega, by go_num, HST, hs, hE2⟩
      case measure => simp [intOf]; omega
    · obtain rfl : j = L := by omega
      have HD := HO.out
      rw [← HL.out] at HD
      have hd := HD.done
      subst hd
      obtain ⟨b0, b1, b2, b3, b4, b5⟩ := h2.ext hE
      have hq5 := (hE.cell hq3).trans hq4
      have hq6 : Rd wr q pw := ((But.refl w.heap.size w).ext hE).rd hq (by have := hq.1; omega)
      have hqg : q ≠ w.heap.size := by have := hq.1; omega
      clear hrd hn4 hq4 HO hlt
      go_wp2_with (fail)
      refine (down_n _ f hf k W n (ml f n l) pw w.heap.size q n w.heap.size HN.out hk hr hp (by rw [ml_len, HN.out]) (ml_lt f hf n l) hown hq6 hqg).mono ?_
      rintro e w5 ⟨rfl, ⟨o5, hd5, ho5⟩, hB5⟩
      have hE6 := hE.trans (hB5.below (B := w.heap.size) (Nat.le_refl _) (Nat.le_trans hE.size (Nat.le_refl _)))
      have HD5 := Lib.hid hd5
      clear hd5 b0 b1 b2 b3 b4 b5 hB5 hE hq5 hq6
      go_wp2
      go_ret
      exact ⟨⟨_, o5, rfl, HD5.out, ho5⟩, hE6⟩
end Go.Proofs.YtkmejhkdmnjbeaaDoor
/- Sums of products by transforms: what the rests are. -/
namespace Go.Proofs.YtkmejhkdmnjbeaaDoor
open Go.RowKit
set_option linter.unusedVariables false
set_option maxHeartbeats 400000

theorem cv_sm (a b : List Nat) (i m : Nat) : ((cv a b i m : Nat) : Int) = sm i fun t => if t ≤ m then seq a t * seq b (m - t) else 0 := by
  induction i with
  | zero => rfl
  | succ i ih =>
    rw [cv, sm_succ, ← ih, Int.natCast_add]
    congr 1
    split
    · rw [Int.natCast_mul]; rfl
    · rfl
/-- All around, with room enough, is as it goes. -/
theorem around_cv (a b : List Nat) (n j : Nat) (hj : j < n) (ha : a.length ≤ n) (hab : a.length + b.length ≤ n + 1) :
    sm n (fun t => seq a t * seq b ((j + n - t) % n)) = ((cv a b a.length j : Nat) : Int) := by
  obtain ⟨r, hr⟩ : ∃ r, n = a.length + r := ⟨n - a.length, by omega⟩
  have e1 : sm n (fun t => seq a t * seq b ((j + n - t) % n)) = sm (a.length + r) (fun t => seq a t * seq b ((j + n - t) % n)) := by rw [← hr]
  rw [e1, sm_split, cv_sm]
  have e2 : sm r (fun i => seq a (a.length + i) * seq b ((j + n - (a.length + i)) % n)) = 0 := by
    rw [← sm_nought r]
    refine sm_congr fun i _ => ?_
    rw [show seq a (a.length + i) = 0 from by unfold seq; rw [lb_past a _ (by omega)]; rfl, Int.zero_mul]
  rw [e2, Int.add_zero]
  refine sm_congr fun t ht => ?_
  by_cases c : t ≤ j
  · rw [if_pos c, show j + n - t = (j - t) + n by omega, Nat.add_mod_right, Nat.mod_eq_of_lt (by omega)]
  · rw [if_neg c, Nat.mod_eq_of_lt (by omega)]
    rw [show seq b (j + n - t) = 0 from by unfold seq; rw [lb_past b _ (by omega)]; rfl, Int.mul_zero]
theorem mm_eqm (f : Fd) (x y : Nat) : Eqm (f.p : Int) ((mm f x y : Nat) : Int) ((x : Int) * (y : Int) * (f.ri : Int)) := by
  unfold mm
  refine (Eqm.nat_mod _ _).trans (Eqm.of_eq ?_)
  rw [Int.natCast_mul, Int.natCast_mul]
theorem ri_eqm (f : Fd) (hf : Good f) : Eqm (f.p : Int) ((f.ri : Int) * 4294967296) 1 := by
  have h := hf.ri
  have := eqm_of_mod (p := f.p) (a := f.ri * 4294967296) (b := 1) (by rw [h, Nat.mod_eq_of_lt hf.p0])
  rwa [Int.natCast_mul] at this
theorem rest_math {f : Fd} (F : Fld f) {k n : Nat} (hk : k ≤ 20) (hn : 2 ^ k = n) (a b : List Nat) (ha : a.length ≤ n) (hab : a.length + b.length ≤ n + 1) {x y z u r : List Nat}
    (hx : DownL f k (rt f k) (ml f n a) 0 x) (hy : DownL f k (rt f k) (ml f n b) 0 y) (hz : ∀ q, q < n → lb z q = mm f (lb x q) (lb y q)) (hu : UpL f k (bt f k) z k u)
    (hr : ∀ q, q < n → lb r q = mm f (lb u q) (sh f n % f.p)) (j : Nat) (hj : j < n) : Eqm (f.p : Int) ((lb r j : Nat) : Int) ((cv a b a.length j : Nat) : Int) := by
  have hG := F.good
  subst hn
  have hri := ri_eqm f hG
  have hw := F.rt hk
  have hv := F.bt hk
  have one : ∀ (l o : List Nat), DownL f k (rt f k) (ml f (2 ^ k) l) 0 o → ∀ q, q < 2 ^ k → Eqm (f.p : Int) (seq o q) (4294967296 * dft ((rt f k : Nat) : Int) (2 ^ k) (seq l) (rev k q)) := by
    intro l o h q hq
    refine (h.down.done q hq).trans ?_
    rw [← dft_mul]
    refine dft_eqm fun i hi => ?_
    unfold seq
    rw [ml_at f _ l i hi]
    unfold mont
    refine (Eqm.nat_mod _ _).trans (Eqm.of_eq ?_)
    rw [Int.natCast_mul, Int.mul_comm]; rfl
  have hzq : ∀ q, q < 2 ^ k → Eqm (f.p : Int) (seq z q) (4294967296 * dft ((rt f k : Nat) : Int) (2 ^ k) (fun q => sm (2 ^ k) fun t => seq a t * seq b ((q + 2 ^ k - t) % 2 ^ k)) (rev k q)) := by
    intro q hq
    have h0 : seq z q = ((mm f (lb x q) (lb y q) : Nat) : Int) := by unfold seq; rw [hz q hq]
    rw [h0]
    have h1 := (one a x hx q hq).mul (one b y hy q hq)
    have h2 := dft_around hw.1 (seq a) (seq b) (rev k q)
    refine (mm_eqm f _ _).trans ((h1.mul (Eqm.refl _ (f.ri : Int))).trans ?_)
    generalize dft ((rt f k : Nat) : Int) (2 ^ k) (seq a) (rev k q) = A at *
    generalize dft ((rt f k : Nat) : Int) (2 ^ k) (seq b) (rev k q) = B at *
    refine Eqm.trans ?_ ((Eqm.refl _ (4294967296 : Int)).mul h2)
    have h3 := hri.mul (Eqm.refl (f.p : Int) (4294967296 * (A * B)))
    rw [Int.one_mul] at h3
    refine Eqm.trans (Eqm.of_eq ?_) h3
    grind
  have huq : Eqm (f.p : Int) (seq u j) (4294967296 * (((2 ^ k : Nat) : Int) * sm (2 ^ k) fun t => seq a t * seq b ((j + 2 ^ k - t) % 2 ^ k))) := by
    refine (hu.up.done j hj).trans ?_
    refine (Eqm.sm fun t ht => (hzq t ht).mul (Eqm.refl _ _)).trans ?_
    rw [sm_rev k (fun t => 4294967296 * dft ((rt f k : Nat) : Int) (2 ^ k) (fun q => sm (2 ^ k) fun t => seq a t * seq b ((q + 2 ^ k - t) % 2 ^ k)) t * ((bt f k : Nat) : Int) ^ (j * t))]
    have e : (sm (2 ^ k) fun t => 4294967296 * dft ((rt f k : Nat) : Int) (2 ^ k) (fun q => sm (2 ^ k) fun t => seq a t * seq b ((q + 2 ^ k - t) % 2 ^ k)) t * ((bt f k : Nat) : Int) ^ (j * t)) = dft ((bt f k : Nat) : Int) (2 ^ k) (fun t => 4294967296 * dft ((rt f k : Nat) : Int) (2 ^ k) (fun q => sm (2 ^ k) fun t => seq a t * seq b ((q + 2 ^ k - t) % 2 ^ k)) t) j := by
      unfold dft
      exact sm_congr fun t _ => by rw [Nat.mul_comm j t]
    rw [e, dft_mul]
    exact (Eqm.refl _ _).mul (dft_back hw hv (F.wv k) _ j hj)
  rw [hr j hj, ← around_cv a b (2 ^ k) j hj ha hab]
  refine (mm_eqm f _ _).trans ?_
  have h1 := huq.mul (Eqm.nat_mod f.p (sh f (2 ^ k)))
  refine (h1.mul (Eqm.refl _ (f.ri : Int))).trans ?_
  generalize (sm (2 ^ k) fun t => seq a t * seq b ((j + 2 ^ k - t) % 2 ^ k)) = C at *
  have h3 := (hri.mul (F.share k)).mul (Eqm.refl (f.p : Int) C)
  rw [Int.one_mul, Int.one_mul] at h3
  refine Eqm.trans (Eqm.of_eq ?_) h3
  grind
end Go.Proofs.YtkmejhkdmnjbeaaDoor
/- Sums of products modulo a prime, by transforms. -/
namespace Go.Proofs.YtkmejhkdmnjbeaaDoor
open Go.RowKit
set_option linter.unusedVariables false
set_option maxHeartbeats 400000

theorem keepN {x y : World} {B Bn : Nat} {v : Value} {f : Fd} (h : (B < x.heap.size ∧ x.cell? ⟨B, 0, none⟩ = some (.int .u32 (f.p : Int)) ∧ x.cell? ⟨B, 1, none⟩ = some (.int .u32 (f.root : Int)) ∧ x.cell? ⟨B, 2, none⟩ = some (.int .u32 (f.neg : Int)) ∧ x.cell? ⟨B, 3, none⟩ = some (.int .u32 (f.square : Int)) ∧ x.cell? ⟨B, 4, none⟩ = some (.int .u32 (f.ahead : Int))) ∧ x.cell? ⟨Bn, 0, none⟩ = some v) (hB : Ext x y) :
    (B < y.heap.size ∧ y.cell? ⟨B, 0, none⟩ = some (.int .u32 (f.p : Int)) ∧ y.cell? ⟨B, 1, none⟩ = some (.int .u32 (f.root : Int)) ∧ y.cell? ⟨B, 2, none⟩ = some (.int .u32 (f.neg : Int)) ∧ y.cell? ⟨B, 3, none⟩ = some (.int .u32 (f.square : Int)) ∧ y.cell? ⟨B, 4, none⟩ = some (.int .u32 (f.ahead : Int))) ∧ y.cell? ⟨Bn, 0, none⟩ = some v :=
  ⟨Bx.ext (f := f) h.1 hB, (hB.cell (p := ⟨Bn, 0, none⟩) (World.block_lt_of_cell? x _ h.2)).trans h.2⟩

theorem keepNS {x : World} {B Bn Bq : Nat} {v u : Value} {f : Fd} (h : (B < x.heap.size ∧ x.cell? ⟨B, 0, none⟩ = some (.int .u32 (f.p : Int)) ∧ x.cell? ⟨B, 1, none⟩ = some (.int .u32 (f.root : Int)) ∧ x.cell? ⟨B, 2, none⟩ = some (.int .u32 (f.neg : Int)) ∧ x.cell? ⟨B, 3, none⟩ = some (.int .u32 (f.square : Int)) ∧ x.cell? ⟨B, 4, none⟩ = some (.int .u32 (f.ahead : Int))) ∧ x.cell? ⟨Bn, 0, none⟩ = some v) (h1 : B ≠ Bq) (h2 : Bn ≠ Bq) :
    (B < (x.setCell ⟨Bq, 0, none⟩ u).heap.size ∧ (x.setCell ⟨Bq, 0, none⟩ u).cell? ⟨B, 0, none⟩ = some (.int .u32 (f.p : Int)) ∧ (x.setCell ⟨Bq, 0, none⟩ u).cell? ⟨B, 1, none⟩ = some (.int .u32 (f.root : Int)) ∧ (x.setCell ⟨Bq, 0, none⟩ u).cell? ⟨B, 2, none⟩ = some (.int .u32 (f.neg : Int)) ∧ (x.setCell ⟨Bq, 0, none⟩ u).cell? ⟨B, 3, none⟩ = some (.int .u32 (f.square : Int)) ∧ (x.setCell ⟨Bq, 0, none⟩ u).cell? ⟨B, 4, none⟩ = some (.int .u32 (f.ahead : Int))) ∧ (x.setCell ⟨Bq, 0, none⟩ u).cell? ⟨Bn, 0, none⟩ = some v :=
  ⟨((But.refl Bq x).setCell 0 u).bx (f := f) h.1 h1, (((But.refl Bq x).setCell 0 u).cell (p := ⟨Bn, 0, none⟩) (World.block_lt_of_cell? x _ h.2) h2).trans h.2⟩
/-- A cell made ahead of a call. -/
theorem made_cell {x y : World} {v : Value} {t : TypeId} (hB : Ext (x.alloc (.cells #[v] t)) y) : y.cell? ⟨x.heap.size, 0, none⟩ = some v :=
  (hB.cell (p := ⟨x.heap.size, 0, none⟩) (by simp)).trans (by go_simp)
theorem made_free {x y : World} {v : Value} {t : TypeId} (hB : Ext (x.alloc (.cells #[v] t)) y) : y.frozen? ⟨x.heap.size, 0, none⟩ = false :=
  (hB.frozen (p := ⟨x.heap.size, 0, none⟩) (by simp)).trans (by go_simp)
theorem made_size {x y : World} {v : Value} {t : TypeId} (hB : Ext (x.alloc (.cells #[v] t)) y) : x.heap.size < y.heap.size := by
  have := hB.size; simp at this; omega
theorem drawn {x y : World} (hB : Ext x.drew y) : Ext x y := ((Ext.refl x).drew).below hB
theorem set_same {x : World} {p : Addr} {u v : Value} (h : x.cell? p = some u) : (x.setCell p v).cell? p = some v := by
  go_simp
theorem kept_cell {x y : World} {p : Addr} {v : Value} (hB : Ext x y) (h : x.cell? p = some v) : y.cell? p = some v := (hB.cell (World.block_lt_of_cell? x _ h)).trans h
theorem kept_free {x y : World} {p : Addr} {v : Value} (hB : Ext x y) (h : x.cell? p = some v) (g : x.frozen? p = false) : y.frozen? p = false := (hB.frozen (World.block_lt_of_cell? x _ h)).trans g

/-- The first m numbers put anew. -/
structure Upd (n p : Nat) (G : Nat → Nat) (m : Nat) (l o : List Nat) : Prop where
  len : o.length = n
  lt : ∀ x ∈ o, x < p
  at_ : ∀ i, lb o i = if i < m then G i else lb l i
theorem Upd.start {n p : Nat} {G : Nat → Nat} {l : List Nat} (h : l.length = n) (hl : ∀ x ∈ l, x < p) : Upd n p G 0 l l := ⟨h, hl, fun i => by rw [if_neg (by omega)]⟩
theorem Upd.step {n p : Nat} {G : Nat → Nat} {m : Nat} {l o : List Nat} (H : Upd n p G m l o) (hm : m < n) (hG : G m < p) : Upd n p G (m + 1) l (o.set m (G m)) := by
  refine ⟨by simp [H.len], set_lt H.lt hG, fun i => ?_⟩
  rw [lb_set _ _ _ _ (by rw [H.len]; exact hm)]
  by_cases e : m = i
  · subst e; rw [if_pos rfl, if_pos (by omega)]
  · rw [if_neg e, H.at_ i]
    by_cases c : i < m
    · rw [if_pos c, if_pos (by omega)]
    · rw [if_neg c, if_neg (by omega)]

set_option maxRecDepth 100000 in
set_option maxHeartbeats 4000000 in
theorem rests_calls (w : World) (f : Fd) (F : Fld f) (k n : Nat) (hn : 2 ^ k = n) (hk : k ≤ 16) (va vb : Value) (a b : List Nat) (hua : U w va a) (hub : U w vb b)
    (ha : a.length ≤ n) (hb : b.length ≤ n) (hab : a.length + b.length ≤ n + 1) :
    Calls Tryd.prog 56 #[f.V, va, vb, .int .i64 (k : Nat)] w fun e w' => (∃ u r, e = .returned u ∧ U w' u r ∧ r.length = n ∧ (∀ x ∈ r, x < f.p) ∧ ∀ j, j < n → Eqm (f.p : Int) ((lb r j : Nat) : Int) ((cv a b a.length j : Nat) : Int)) ∧ Ext w w' := by
  have hG := F.good
  have p0 := hG.p0
  have p1 := hG.p1
  have hn1 : n ≤ 65536 := by rw [← hn]; exact Nat.pow_le_pow_right (by decide) hk
  have hn0 : 0 < n := by rw [← hn]; exact Nat.two_pow_pos k
  have HN := Lib.hid hn
  have HMath := Lib.hid (fun x y z u r => @rest_math f F k n (by omega) hn a b ha hab x y z u r)
  have hw1 : IntKind.i64.wrap ((2 : Int) ^ k) = (n : Int) := by rw [IntKind.wrap_i64, ← hn]; have : ((2 ^ k : Nat) : Int) = (2 : Int) ^ k := by simp
                                                                rw [← this]; omega
  have hk0 : (0 : Int) ≤ (k : Int) := by omega
  have hk1 : decide ((k : Int) < 0) = false := by rw [decide_eq_false_iff_not]; omega
  have hmf : ∀ (fn : Fn) (first cap : Array Value) (w : World), (Instr.makeFunc fn first cap).run Tryd.prog w = .ok (.func fn first cap) w := fun _ _ _ _ => rfl
  have HX := Bx.new w f
  obtain ⟨b0, b1, b2, b3, b4, b5⟩ := id HX
  clear hn
  unfold Fd.V
  go_enter Tryd.func56, Tryd.ntmps56
  go_upto_region 2 with (fail)
  have hE0 : Ext w ((w.alloc (.cells #[.int .u32 (f.p : Int), .int .u32 (f.root : Int), .int .u32 (f.neg : Int), .int .u32 (f.square : Int), .int .u32 (f.ahead : Int)] 77)).alloc (.cells #[.int .i64 (n : Nat)] 3)) := ((Ext.refl w).alloc _).alloc _
  have hX1 := HX.ext ((Ext.refl _).alloc (.cells #[.int .i64 (n : Nat)] 3))
  have hN1 : ((w.alloc (.cells #[.int .u32 (f.p : Int), .int .u32 (f.root : Int), .int .u32 (f.neg : Int), .int .u32 (f.square : Int), .int .u32 (f.ahead : Int)] 77)).alloc (.cells #[.int .i64 (n : Nat)] 3)).cell? ⟨w.heap.size + 1, 0, none⟩ = some (.int .i64 (n : Nat)) := by
    rw [show w.heap.size + 1 = (w.alloc (.cells #[.int .u32 (f.p : Int), .int .u32 (f.root : Int), .int .u32 (f.neg : Int), .int .u32 (f.square : Int), .int .u32 (f.ahead : Int)] 77)).heap.size by simp]
    go_simp
  have hs1 : w.heap.size + 1 < ((w.alloc (.cells #[.int .u32 (f.p : Int), .int .u32 (f.root : Int), .int .u32 (f.neg : Int), .int .u32 (f.square : Int), .int .u32 (f.ahead : Int)] 77)).alloc (.cells #[.int .i64 (n : Nat)] 3)).heap.size := by simp
  clear HX b0 b1 b2 b3 b4 b5
  generalize (w.alloc (.cells #[.int .u32 (f.p : Int), .int .u32 (f.root : Int), .int .u32 (f.neg : Int), .int .u32 (f.square : Int), .int .u32 (f.ahead : Int)] 77)).alloc (.cells #[.int .i64 (n : Nat)] 3) = w2 at *
  have hPW := Lib.hid (fun W => powers_calls W f hG k n (rt f k) HN.out.symm (by omega))
  go_cut [10] from 21 to 26 (fun s10 wx => ∃ (q Bq : Nat) (pw : List Nat), s10 = .pointer (some ⟨Bq, 0, none⟩) ∧ Bq < wx.heap.size ∧ wx.cell? ⟨Bq, 0, none⟩ = some (.slice (some ⟨q, 0, none⟩) pw.length pw.length) ∧ Hid (Pw f k (rt f k) pw) ∧ Rd wx q pw ∧ Ext w2 wx)
  case first =>
    have hdd : w2.drew.heap.size = w2.heap.size := rfl
    have hS0 : (w.heap.size < w2.drew.heap.size ∧ w2.drew.cell? ⟨w.heap.size, 0, none⟩ = some (.int .u32 (f.p : Int)) ∧ w2.drew.cell? ⟨w.heap.size, 1, none⟩ = some (.int .u32 (f.root : Int)) ∧ w2.drew.cell? ⟨w.heap.size, 2, none⟩ = some (.int .u32 (f.neg : Int)) ∧ w2.drew.cell? ⟨w.heap.size, 3, none⟩ = some (.int .u32 (f.square : Int)) ∧ w2.drew.cell? ⟨w.heap.size, 4, none⟩ = some (.int .u32 (f.ahead : Int))) ∧ w2.drew.cell? ⟨w.heap.size + 1, 0, none⟩ = some (.int .i64 (n : Nat)) := ⟨hX1, hN1⟩
    go_region_held3 (fun X => (w.heap.size < X.heap.size ∧ X.cell? ⟨w.heap.size, 0, none⟩ = some (.int .u32 (f.p : Int)) ∧ X.cell? ⟨w.heap.size, 1, none⟩ = some (.int .u32 (f.root : Int)) ∧ X.cell? ⟨w.heap.size, 2, none⟩ = some (.int .u32 (f.neg : Int)) ∧ X.cell? ⟨w.heap.size, 3, none⟩ = some (.int .u32 (f.square : Int)) ∧ X.cell? ⟨w.heap.size, 4, none⟩ = some (.int .u32 (f.ahead : Int))) ∧ X.cell? ⟨w.heap.size + 1, 0, none⟩ = some (.int .i64 (n : Nat)))
      (first
        | exact hS0
        | assumption
        | exact keepN (by assumption) (by assumption)
        | exact keepN (by assumption) ((Ext.refl _).alloc _)
        | exact keepN (keepN (by assumption) ((Ext.refl _).alloc _)) (by assumption)
        | exact keepN (keepN (keepN hS0 hB3) hB4) ((Ext.refl _).alloc _)
        | exact keepNS (keepN (keepN (keepN hS0 ((Ext.refl _).alloc _)) hB3) hB4) (by omega) (by omega)
        | exact keepNS (keepN (keepN (keepN hS0 hB3) ((Ext.refl _).alloc _)) hB4) (by omega) (by omega)
        | exact keepNS (by assumption) (by omega) (by omega)
        | exact keepNS (keepN (by assumption) ((Ext.refl _).alloc _)) (by omega) (by omega))
      (first
        | (go_at_call 71; ((with_reducible refine (of_calls _ f hG k (by omega)).mono ?_); rintro e w3 ⟨rfl, hB3⟩; have hs3 := hB3.size; first | (have h0 : Ext w2.drew w3 := hB3) | (have hz3 : w3.cell? ⟨w2.heap.size, 0, none⟩ = some (.slice none 0 0) := made_cell (x := w2.drew) hB3; have hf3 : w3.frozen? ⟨w2.heap.size, 0, none⟩ = false := made_free (x := w2.drew) hB3; have hl3 : w2.heap.size < w3.heap.size := made_size (x := w2.drew) hB3)))
        | (go_at_call 70; ((with_reducible refine (hPW.out _).mono ?_); rintro e w4 ⟨⟨q, pw, rfl, hpw, hown⟩, hB4⟩; have hs4 := hB4.size; first | (have hz4 := kept_cell hB4 hz3; have hf4 := kept_free hB4 hz3 hf3) | (have hz4 : w4.cell? ⟨w3.heap.size, 0, none⟩ = some (.slice none 0 0) := made_cell (x := w3) hB4; have hf4 : w4.frozen? ⟨w3.heap.size, 0, none⟩ = false := made_free (x := w3) hB4; have hl4 : w3.heap.size < w4.heap.size := made_size (x := w3) hB4) | skip)))
    · go_wp2_with (fail)
      go_meet
      exact ⟨q, w4.heap.size, pw, rfl, by simp, by go_simp, hpw, ((But.refl w4.heap.size w4).ext ((Ext.refl w4).alloc _)).rd hown.rd (by have := hown.block; omega), ((drawn hB3).below hB4).alloc _⟩
    · go_wp2_with (fail)
      go_meet
      exact ⟨q, w3.heap.size, pw, rfl, by simp; omega, set_same hz4, hpw, ((But.refl w3.heap.size w4).setCell 0 _).rd hown.rd (by have := hown.block; simp at this; omega), ((((drawn hB3).alloc _).below hB4).setCell (p := ⟨w3.heap.size, 0, none⟩) (by exact (drawn hB3).size) _)⟩
    · go_wp2_with (fail)
      go_meet
      exact ⟨q, w2.heap.size, pw, rfl, by simp; omega, set_same hz4, hpw, ((But.refl w2.heap.size w4).setCell 0 _).rd hown.rd (by have := hown.block; omega), (((((Ext.refl w2).alloc _).below (drawn hB3)).below hB4).setCell (p := ⟨w2.heap.size, 0, none⟩) (Nat.le_refl _) _)⟩
  case rest =>
    obtain ⟨q, Bq, pw, rfl, hq1, hq2, hpw, hrd, hE2⟩ := hcut
    have hX := hX1.ext hE2
    have hNc := kept_cell hE2 hN1
    have hE := hE0.below hE2
    have hs2 := hE2.size
    replace hua := hua.below hE
    replace hub := hub.below hE
    clear hE0 hX1 hN1 hPW hE2
    have hLa := Lib.hid (fun W h1 h2 h3 h4 hu => load_calls W f hG k n (rt f k) (w.heap.size + 1) w.heap.size Bq q pw HN.out (by omega) (F.rt (by omega)) hpw.out h1 h2 h3 h4 va a hu ha)
    have hLb := Lib.hid (fun W h1 h2 h3 h4 hu => load_calls W f hG k n (rt f k) (w.heap.size + 1) w.heap.size Bq q pw HN.out (by omega) (F.rt (by omega)) hpw.out h1 h2 h3 h4 vb b hu hb)
    have hwc : w.heap.size + 1 < wc.heap.size := by omega
    go_wp2_with (fail)
    refine (hLa.out _ hrd ⟨hwc, hNc⟩ hX ⟨hq1, hq2⟩ hua).mono ?_
    rintro e w5 ⟨⟨g1, o1, rfl, hd1, hown1⟩, hB5⟩
    have hs5 := hB5.size
    have HD1 := Lib.hid hd1
    replace hrd := (But.refl wc.heap.size wc).ext hB5 |>.rd hrd (by have := hrd.1; omega)
    replace hNc := kept_cell hB5 hNc
    replace hX := hX.ext hB5
    replace hq2 := kept_cell hB5 hq2
    replace hub := hub.below hB5
    replace hE := hE.below hB5
    clear hd1 hB5 hLa hua
    go_wp2_with (fail)
    refine (hLb.out _ hrd ⟨by omega, hNc⟩ hX ⟨by omega, hq2⟩ hub).mono ?_
    rintro e w6 ⟨⟨g2, o2, rfl, hd2, hown2⟩, hB6⟩
    have hs6 := hB6.size
    have HD2 := Lib.hid hd2
    replace hNc := kept_cell hB6 hNc
    replace hX := hX.ext hB6
    replace hE := hE.below hB6
    have hbl1 := hown1.block
    have hbl2 := hown2.block
    replace hown1 := hown1.ext hB6
    clear hd2 hB6 hLb hub hrd hq2 hq1 hpw
    have hg12 : g2 ≠ g1 := by omega
    have hgf : w.heap.size ≠ g1 := by omega
    have hgn : w.heap.size + 1 ≠ g1 := by omega
    have hl1 := HD1.out.len
    have hl2 := HD2.out.len
    rw [HN.out] at hl1 hl2
    have HL1 := Lib.hid hl1
    have HL2 := Lib.hid hl2
    have HT1 := Lib.hid HD1.out.lt
    have HT2 := Lib.hid HD2.out.lt
    have hrd2 := hown2.rd
    clear hl1 hl2 hown2
    go_wp2_with (fail)
    go_loopw [36] (fun t wr => ∃ (m : Nat) (o : List Nat), m ≤ n ∧ t = .int .i64 (m : Nat) ∧ Hid (Upd n f.p (fun i => mm f (lb o1 i) (lb o2 i)) m o1 o) ∧ Own wr wc.heap.size (.slice (some ⟨g1, 0, none⟩) n n) o ∧ But g1 w6 wr) (fun t _ => n - (intOf t).toNat)
    case atStart => exact ⟨0, o1, Nat.zero_le _, rfl, Upd.start HL1.out HT1.out, hown1, But.refl _ _⟩
    case round =>
      clear hown1
      obtain ⟨m, o, hm, rfl, HO, hown, hB⟩ := hrel
      by_cases hlt : m < n
      · have hc1 := hown.rd.2 m (by rw [HO.out.len]; exact hlt)
        have hc2 := (hB.rd hrd2 hg12).2 m (by rw [HL2.out]; exact hlt)
        obtain ⟨b0, b1, b2, b3, b4, b5⟩ := hB.bx hX hgf
        have HST := Lib.hid (HO.out.step hlt (mm_lt f hG _ _))
        have he := HO.out.at_ m
        rw [if_neg (by omega)] at he
        rw [he] at hc1
        have hx1 : lb o1 m < f.p := lb_lt_of (by omega) HT1.out _
        have hy1 : lb o2 m < f.p := lb_lt_of (by omega) HT2.out _
        have hol := HO.out.len
        generalize lb o1 m = x at *
        generalize lb o2 m = y at *
        have hm0 : (0 : Int) ≤ (m : Int) := by omega
        have hm1 : (m : Int) < (n : Int) := by omega
        clear HO he
        go_wp2
        have hD0 : But g1 w6 wr.drew := hB.drew
        go_region_with (first
          | (go_at_call 75; ((with_reducible refine (mul_calls _ f hG x y (by omega) (by omega) (lt_prod (by omega) hy1)).mono ?_); rintro e w8 ⟨rfl, hB8⟩; have ho8 := hown.drew.ext hB8; have hc8 := ho8.rd.2 m (by omega); have hf8 := ho8.frozen' m; have ho9 := ho8.set' m (mm f x y); have hB9 := (hD0.ext hB8).setCell m (.int .u32 (mm f x y : Nat)))))
        all_goals
          (go_wp2
           go_roundw
           case rel => exact ⟨m + 1, _, by omega, by go_num, HST, ho9, hB9⟩
           case measure => simp [intOf]; omega)
      · obtain rfl : m = n := by omega
        have HZ1 := Lib.hid HO.out.len
        have HZ2 := Lib.hid HO.out.lt
        have HZ3 : Hid (∀ q, q < m → lb o q = mm f (lb o1 q) (lb o2 q)) := fun q hq => by rw [HO.out.at_ q, if_pos hq]
        clear HO hlt hm hrd2 HT1 HT2 HL1 HL2
        have hw6 : w.heap.size + 1 < w6.heap.size := by omega
        go_wp2_with (fail)
        have hS0 : (w.heap.size < wr.drew.heap.size ∧ wr.drew.cell? ⟨w.heap.size, 0, none⟩ = some (.int .u32 (f.p : Int)) ∧ wr.drew.cell? ⟨w.heap.size, 1, none⟩ = some (.int .u32 (f.root : Int)) ∧ wr.drew.cell? ⟨w.heap.size, 2, none⟩ = some (.int .u32 (f.neg : Int)) ∧ wr.drew.cell? ⟨w.heap.size, 3, none⟩ = some (.int .u32 (f.square : Int)) ∧ wr.drew.cell? ⟨w.heap.size, 4, none⟩ = some (.int .u32 (f.ahead : Int))) ∧ wr.drew.cell? ⟨w.heap.size + 1, 0, none⟩ = some (.int .i64 (m : Nat)) := ⟨hB.bx hX hgf, (hB.cell (p := ⟨w.heap.size + 1, 0, none⟩) hw6 hgn).trans hNc⟩
        have ho2 : Own wr.drew wc.heap.size (.slice (some ⟨g1, 0, none⟩) m m) o := hown.drew
        have hB2 : But g1 w6 wr.drew := hB.drew
        have hPW := Lib.hid (fun W => powers_calls W f hG k m (bt f k) HN.out.symm (by omega))
        clear hown hB
        go_region_held3 (fun X => (w.heap.size < X.heap.size ∧ X.cell? ⟨w.heap.size, 0, none⟩ = some (.int .u32 (f.p : Int)) ∧ X.cell? ⟨w.heap.size, 1, none⟩ = some (.int .u32 (f.root : Int)) ∧ X.cell? ⟨w.heap.size, 2, none⟩ = some (.int .u32 (f.neg : Int)) ∧ X.cell? ⟨w.heap.size, 3, none⟩ = some (.int .u32 (f.square : Int)) ∧ X.cell? ⟨w.heap.size, 4, none⟩ = some (.int .u32 (f.ahead : Int))) ∧ X.cell? ⟨w.heap.size + 1, 0, none⟩ = some (.int .i64 (m : Nat)))
          (first
            | exact hS0
            | assumption
            | exact keepN (by assumption) (by assumption))
          (first
            | (go_at_call 77; ((with_reducible refine (backward_calls _ f hG k (by omega)).mono ?_); rintro e w3 ⟨rfl, hB3⟩; have ho3 := ho2.ext hB3; have hE4 := hB2.ext hB3))
            | (go_at_call 70; ((with_reducible refine (hPW.out _).mono ?_); rintro e w4 ⟨⟨q2, pw2, rfl, hpw2, hown⟩, hB4⟩; have ho4 := ho3.ext hB4; have hE5 := hE4.ext hB4; have hblk3 := ho3.block; have hqb := hown.block))
            | (go_at_call 76; ((with_reducible refine (up_n _ f hG k (bt f k) m o pw2 g1 q2 m wc.heap.size HN.out (by omega) (F.bt (by omega)) hpw2 (by rw [HZ1.out, HN.out]) HZ2.out ho4 hown.rd (by omega)).mono ?_); rintro e w5 ⟨rfl, ⟨u5, hu5, ho5⟩, hB5⟩; have hE6 := hE5.trans hB5; have hX5 : (w.heap.size < w5.heap.size ∧ w5.cell? ⟨w.heap.size, 0, none⟩ = some (.int .u32 (f.p : Int)) ∧ w5.cell? ⟨w.heap.size, 1, none⟩ = some (.int .u32 (f.root : Int)) ∧ w5.cell? ⟨w.heap.size, 2, none⟩ = some (.int .u32 (f.neg : Int)) ∧ w5.cell? ⟨w.heap.size, 3, none⟩ = some (.int .u32 (f.square : Int)) ∧ w5.cell? ⟨w.heap.size, 4, none⟩ = some (.int .u32 (f.ahead : Int))) ∧ w5.cell? ⟨w.heap.size + 1, 0, none⟩ = some (.int .i64 (m : Nat)) := ⟨hE6.bx hX hgf, (hE6.cell (p := ⟨w.heap.size + 1, 0, none⟩) hw6 hgn).trans hNc⟩)))
        have HU := Lib.hid hu5
        clear hu5 hpw2 hown hblk3 hqb hB5 hB4 hB3 ho4 ho3 hE5 hE4 ho2 hB2 hS0
        go_wp2_with (fail)
        have hS1 : (w.heap.size < w5.drew.heap.size ∧ w5.drew.cell? ⟨w.heap.size, 0, none⟩ = some (.int .u32 (f.p : Int)) ∧ w5.drew.cell? ⟨w.heap.size, 1, none⟩ = some (.int .u32 (f.root : Int)) ∧ w5.drew.cell? ⟨w.heap.size, 2, none⟩ = some (.int .u32 (f.neg : Int)) ∧ w5.drew.cell? ⟨w.heap.size, 3, none⟩ = some (.int .u32 (f.square : Int)) ∧ w5.drew.cell? ⟨w.heap.size, 4, none⟩ = some (.int .u32 (f.ahead : Int))) ∧ w5.drew.cell? ⟨w.heap.size + 1, 0, none⟩ = some (.int .i64 (m : Nat)) := hX5
        have hOut := Lib.hid (fun W => out_calls W f hG (mont f (sh f m)) (by have := mont_lt f hG (sh f m); omega))
        go_region_held3 (fun X => (w.heap.size < X.heap.size ∧ X.cell? ⟨w.heap.size, 0, none⟩ = some (.int .u32 (f.p : Int)) ∧ X.cell? ⟨w.heap.size, 1, none⟩ = some (.int .u32 (f.root : Int)) ∧ X.cell? ⟨w.heap.size, 2, none⟩ = some (.int .u32 (f.neg : Int)) ∧ X.cell? ⟨w.heap.size, 3, none⟩ = some (.int .u32 (f.square : Int)) ∧ X.cell? ⟨w.heap.size, 4, none⟩ = some (.int .u32 (f.ahead : Int))) ∧ X.cell? ⟨w.heap.size + 1, 0, none⟩ = some (.int .i64 (m : Nat)))
          (first
            | exact hS1
            | assumption
            | exact keepN (by assumption) (by assumption))
          (first
            | (go_at_call 79; ((with_reducible refine (share_calls _ f hG m (by omega)).mono ?_); rintro e w7 ⟨rfl, hB7⟩))
            | (go_at_call 78; ((with_reducible refine (hOut.out _).mono ?_); rintro e w8 ⟨rfl, hB8⟩)))
        have HSH : Hid (mm f (mont f (sh f m)) 1 = sh f m % f.p) := mm_one f hG _
        have hsp := mm_lt f hG (mont f (sh f m)) 1
        generalize mm f (mont f (sh f m)) 1 = S at *
        have hB9 : Ext w5 w8 := (drawn hB7).below hB8
        replace ho5 := ho5.ext hB9
        replace hE6 := hE6.ext hB9
        clear hB7 hB8 hB9 hS1 hX5 hOut
        have HU1 := Lib.hid HU.out.len
        have HU2 := Lib.hid HU.out.lt
        rw [HN.out] at HU1
        go_wp2_with (fail)
        go_loopw [68] (fun t wr => ∃ (j : Nat) (r : List Nat), j ≤ m ∧ t = .int .i64 (j : Nat) ∧ Hid (Upd m f.p (fun i => mm f (lb u5 i) S) j u5 r) ∧ Own wr wc.heap.size (.slice (some ⟨g1, 0, none⟩) m m) r ∧ But g1 w6 wr) (fun t _ => m - (intOf t).toNat)
        case atStart => exact ⟨0, u5, Nat.zero_le _, rfl, Upd.start HU1.out HU2.out, ho5, hE6⟩
        case round =>
          clear ho5 hE6
          obtain ⟨j, r, hj, rfl, HO, hown, hB⟩ := hrel
          by_cases hlt : j < m
          · have hc1 := hown.rd.2 j (by rw [HO.out.len]; exact hlt)
            obtain ⟨b0, b1, b2, b3, b4, b5⟩ := hB.bx hX hgf
            have HST := Lib.hid (HO.out.step hlt (mm_lt f hG _ _))
            have he := HO.out.at_ j
            rw [if_neg (by omega)] at he
            rw [he] at hc1
            have hx1 : lb u5 j < f.p := lb_lt_of (by omega) HU2.out _
            have hol := HO.out.len
            generalize lb u5 j = x at *
            have hm0 : (0 : Int) ≤ (j : Int) := by omega
            have hm1 : (j : Int) < (m : Int) := by omega
            clear HO he
            go_wp2_with (fail)
            refine (mul_calls _ f hG x S (by omega) (by omega) (lt_prod (by omega) hsp)).mono ?_
            rintro e w9 ⟨rfl, hB9⟩
            have ho9 := hown.ext hB9
            have hc9 := ho9.rd.2 j (by omega)
            have hf9 := ho9.frozen' j
            have ho10 := ho9.set' j (mm f x S)
            have hB10 := (hB.ext hB9).setCell j (.int .u32 (mm f x S : Nat))
            generalize mm f x S = y at *
            clear b0 b1 b2 b3 b4 b5 hown hc1 hB ho9 hB9
            go_wp2_with (fail)
            go_roundw
            case rel => exact ⟨j + 1, _, by omega, by go_num, HST, ho10, hB10⟩
            case measure => simp [intOf]; omega
          · obtain rfl : j = m := by omega
            have HR : Hid (∀ q, q < j → lb r q = mm f (lb u5 q) (sh f j % f.p)) := fun q hq => by rw [HO.out.at_ q, if_pos hq, ← HSH.out]
            have HM := Lib.hid (HMath.out o1 o2 o u5 r HD1.out HD2.out HZ3.out HU.out HR.out)
            have hU : U wr (.slice (some ⟨g1, 0, none⟩) j j) r := hown.toU (fun x hx => Nat.lt_trans (HO.out.lt x hx) (by omega)) (by rw [HO.out.len]; omega)
            have HF : Hid (∃ u r, Ending.returned (.slice (some ⟨g1, 0, none⟩) j j) = .returned u ∧ U wr u r ∧ r.length = j ∧ (∀ x ∈ r, x < f.p) ∧ ∀ q, q < j → Eqm (f.p : Int) ((lb r q : Nat) : Int) ((cv a b a.length q : Nat) : Int)) := ⟨_, r, rfl, hU, HO.out.len, HO.out.lt, HM.out⟩
            have hE9 : Ext w wr := Below.trans hE ((hB.below (B := w.heap.size) (by omega) (by omega)))
            clear HO HM hU HR hown hB
            go_wp2_with (fail)
            go_ret
            exact ⟨HF.out, hE9⟩
end Go.Proofs.YtkmejhkdmnjbeaaDoor
/- The number below all three primes' product that has three rests. -/
namespace Go.Proofs.YtkmejhkdmnjbeaaDoor
open Go.RowKit
set_option linter.unusedVariables false
set_option maxHeartbeats 400000

/-- One step: what of N is known up to q, and modulo a prime p, gives the next digit. -/
theorem garner {f : Fd} (hf : Good f) (q N low v s : Nat) (hinv : q * f.ahead * f.ri % f.p = 1) (hlow : N % q = low) (hN : N / q < f.p)
    (hs : Eqm (f.p : Int) (s : Int) ((N : Int) - (low : Int))) (hv : v = mm f s f.ahead) : N / q = v := by
  have h1 : (N : Int) = (low : Int) + (q : Int) * ((N / q : Nat) : Int) := by
    have := Nat.mod_add_div N q
    rw [hlow] at this
    omega
  have h2 : Eqm (f.p : Int) ((q : Int) * (f.ahead : Int) * (f.ri : Int)) 1 := by
    have := eqm_of_mod (p := f.p) (a := q * f.ahead * f.ri) (b := 1) (by rw [hinv, Nat.mod_eq_of_lt hf.p0])
    rwa [Int.natCast_mul, Int.natCast_mul] at this
  have h3 : Eqm (f.p : Int) ((mm f s f.ahead : Nat) : Int) ((N / q : Nat) : Int) := by
    refine (mm_eqm f s f.ahead).trans ?_
    have h4 := (hs.mul (Eqm.refl _ (f.ahead : Int))).mul (Eqm.refl _ (f.ri : Int))
    refine h4.trans ?_
    have h5 := h2.mul (Eqm.refl (f.p : Int) ((N / q : Nat) : Int))
    rw [Int.one_mul] at h5
    refine Eqm.trans (Eqm.of_eq ?_) h5
    rw [h1]
    grind
  rw [hv]
  exact (h3.eq (mm_lt f hf _ _) hN).symm
theorem inv1 : F0.p * F1.ahead * F1.ri % F1.p = 1 := by decide +kernel
theorem inv2 : F0.p * F1.p * F2.ahead * F2.ri % F2.p = 1 := by decide +kernel
/-- s is y less x, modulo p. -/
theorem sub_eqm2 (p x y : Nat) (hp : 0 < p) (hx : x < p) : Eqm (p : Int) (((y + p - x) % p : Nat) : Int) ((y : Int) - (x : Int)) :=
  (Eqm.nat_mod _ _).trans (sub_eqm p y x (by omega))
theorem join_math (N x y z : Nat) (hx : N % F0.p = x) (hy : N % F1.p = y) (hz : N % F2.p = z) (hN : N < F0.p * F1.p * F2.p) (v low w : Nat)
    (hv : v = mm F1 ((y + F1.p - x % F1.p) % F1.p) F1.ahead) (hl : low = F0.p * v + x) (hw : w = mm F2 ((z + F2.p - low % F2.p) % F2.p) F2.ahead) :
    N = low + F0.p * F1.p * w ∧ N % (F0.p * F1.p) = low := by
  have g1 := F1_fld.good
  have g2 := F2_fld.good
  have q1 : 0 < F1.p := by decide
  have q2 : 0 < F2.p := by decide
  have hlow : N % (F0.p * F1.p) = low := by
    have h1 : N % (F0.p * F1.p) % F0.p = x := by rw [Nat.mod_mul_right_mod, hx]
    have h2 : N % (F0.p * F1.p) / F0.p = v := by
      refine garner g1 F0.p (N % (F0.p * F1.p)) x v _ inv1 h1 ?_ ?_ hv
      · exact Nat.div_lt_of_lt_mul (Nat.mod_lt _ (by decide))
      · refine (sub_eqm2 F1.p (x % F1.p) y q1 (Nat.mod_lt _ q1)).trans (Eqm.sub ?_ (Eqm.nat_mod _ _))
        rw [← hy]
        refine (Eqm.nat_mod _ _).trans ?_
        have : Eqm (F1.p : Int) ((N % (F0.p * F1.p) : Nat) : Int) (N : Int) := by
          refine (Eqm.nat_mod _ _).symm.trans ?_
          rw [Nat.mod_mul_left_mod]
          exact Eqm.nat_mod _ _
        exact this.symm
    have h3 := Nat.mod_add_div (N % (F0.p * F1.p)) F0.p
    rw [h1, h2] at h3
    omega
  have h4 : N / (F0.p * F1.p) = w := by
    refine garner g2 (F0.p * F1.p) N low w _ inv2 hlow ?_ ?_ hw
    · exact Nat.div_lt_of_lt_mul hN
    · refine (sub_eqm2 F2.p (low % F2.p) z q2 (Nat.mod_lt _ q2)).trans (Eqm.sub ?_ (Eqm.nat_mod _ _))
      rw [← hz]
      exact Eqm.nat_mod _ _
  have h5 := Nat.mod_add_div N (F0.p * F1.p)
  rw [hlow, h4] at h5
  exact ⟨h5.symm, hlow⟩
end Go.Proofs.YtkmejhkdmnjbeaaDoor
/- join: the number that has three rests, in three limbs. -/
namespace Go.Proofs.YtkmejhkdmnjbeaaDoor
open Go.RowKit
set_option linter.unusedVariables false
set_option maxHeartbeats 400000

set_option maxHeartbeats 1000000 in
theorem mul64_calls (x y : Nat) (hx : x < 18446744073709551616) (hy : y < 18446744073709551616) (w : World) :
    Calls Tryd.prog 81 #[.int .u64 x, .int .u64 y] w fun e w' => e = .returned (.tuple #[.int .u64 ((x * y / 18446744073709551616 : Nat) : Int), .int .u64 ((x * y % 18446744073709551616 : Nat) : Int)]) ∧ w' = w := by
  obtain ⟨bd, bt, bw, hhi⟩ := Lib.mul64_hi x y hx hy
  have ba := Lib.half_mul_le (a := x / 4294967296) (b := y / 4294967296) (by omega) (by omega)
  have bb := Lib.half_mul_le (a := x / 4294967296) (b := y % 4294967296) (by omega) (by omega)
  have bc := Lib.half_mul_le (a := x % 4294967296) (b := y / 4294967296) (by omega) (by omega)
  have ba' : x / 4294967296 * (y / 4294967296) < 18446744073709551616 := by omega
  have bb' : x / 4294967296 * (y % 4294967296) < 18446744073709551616 := by omega
  have bc' : x % 4294967296 * (y / 4294967296) < 18446744073709551616 := by omega
  have bh1 : x / 4294967296 * (y / 4294967296) + (x / 4294967296 * (y % 4294967296) + x % 4294967296 * (y % 4294967296) / 4294967296) / 4294967296 < 18446744073709551616 := by omega
  have bh : x / 4294967296 * (y / 4294967296) + (x / 4294967296 * (y % 4294967296) + x % 4294967296 * (y % 4294967296) / 4294967296) / 4294967296 + ((x / 4294967296 * (y % 4294967296) + x % 4294967296 * (y % 4294967296) / 4294967296) % 4294967296 + x % 4294967296 * (y / 4294967296)) / 4294967296 < 18446744073709551616 := by omega
  go_enter Tryd.func81, Tryd.ntmps81
  go_wp2
  simp only [Mul64.maskN x hx, Mul64.maskN y hy, Mul64.divN, Mul64.mulN, Mul64.addN, Mul64.wrapN _ bd, Mul64.wrapN _ bb', Mul64.wrapN _ bt, Mul64.maskN _ bt, Mul64.wrapN _ bc', Mul64.wrapN _ bw, Mul64.wrapN _ ba', Mul64.wrapN _ bh1, Mul64.wrapN _ bh, Mul64.wrapM (x * y)]
  rw [hhi]
  go_ret2
  exact ⟨rfl, rfl⟩

theorem three (w : World) (B : Nat) (hB : w.heap.size = B) (f g h : Fd) :
    Bx ((((w.alloc (.cells #[.int .u32 (f.p : Int), .int .u32 (f.root : Int), .int .u32 (f.neg : Int), .int .u32 (f.square : Int), .int .u32 (f.ahead : Int)] 77)).alloc (.cells #[.int .u32 (g.p : Int), .int .u32 (g.root : Int), .int .u32 (g.neg : Int), .int .u32 (g.square : Int), .int .u32 (g.ahead : Int)] 77)).alloc (.cells #[.int .u32 (h.p : Int), .int .u32 (h.root : Int), .int .u32 (h.neg : Int), .int .u32 (h.square : Int), .int .u32 (h.ahead : Int)] 77)).drew) B f ∧ Bx ((((w.alloc (.cells #[.int .u32 (f.p : Int), .int .u32 (f.root : Int), .int .u32 (f.neg : Int), .int .u32 (f.square : Int), .int .u32 (f.ahead : Int)] 77)).alloc (.cells #[.int .u32 (g.p : Int), .int .u32 (g.root : Int), .int .u32 (g.neg : Int), .int .u32 (g.square : Int), .int .u32 (g.ahead : Int)] 77)).alloc (.cells #[.int .u32 (h.p : Int), .int .u32 (h.root : Int), .int .u32 (h.neg : Int), .int .u32 (h.square : Int), .int .u32 (h.ahead : Int)] 77)).drew) (B + 1) g ∧
    Bx ((((w.alloc (.cells #[.int .u32 (f.p : Int), .int .u32 (f.root : Int), .int .u32 (f.neg : Int), .int .u32 (f.square : Int), .int .u32 (f.ahead : Int)] 77)).alloc (.cells #[.int .u32 (g.p : Int), .int .u32 (g.root : Int), .int .u32 (g.neg : Int), .int .u32 (g.square : Int), .int .u32 (g.ahead : Int)] 77)).alloc (.cells #[.int .u32 (h.p : Int), .int .u32 (h.root : Int), .int .u32 (h.neg : Int), .int .u32 (h.square : Int), .int .u32 (h.ahead : Int)] 77)).drew) (B + 1 + 1) h ∧ Ext w ((((w.alloc (.cells #[.int .u32 (f.p : Int), .int .u32 (f.root : Int), .int .u32 (f.neg : Int), .int .u32 (f.square : Int), .int .u32 (f.ahead : Int)] 77)).alloc (.cells #[.int .u32 (g.p : Int), .int .u32 (g.root : Int), .int .u32 (g.neg : Int), .int .u32 (g.square : Int), .int .u32 (g.ahead : Int)] 77)).alloc (.cells #[.int .u32 (h.p : Int), .int .u32 (h.root : Int), .int .u32 (h.neg : Int), .int .u32 (h.square : Int), .int .u32 (h.ahead : Int)] 77)).drew) := by
  subst hB
  have h1 := Bx.new w f
  have h2 := Bx.new (w.alloc (.cells #[.int .u32 (f.p : Int), .int .u32 (f.root : Int), .int .u32 (f.neg : Int), .int .u32 (f.square : Int), .int .u32 (f.ahead : Int)] 77)) g
  have h3 := Bx.new ((w.alloc (.cells #[.int .u32 (f.p : Int), .int .u32 (f.root : Int), .int .u32 (f.neg : Int), .int .u32 (f.square : Int), .int .u32 (f.ahead : Int)] 77)).alloc (.cells #[.int .u32 (g.p : Int), .int .u32 (g.root : Int), .int .u32 (g.neg : Int), .int .u32 (g.square : Int), .int .u32 (g.ahead : Int)] 77)) h
  have s1 : (w.alloc (.cells #[.int .u32 (f.p : Int), .int .u32 (f.root : Int), .int .u32 (f.neg : Int), .int .u32 (f.square : Int), .int .u32 (f.ahead : Int)] 77)).heap.size = w.heap.size + 1 := by simp
  have s2 : ((w.alloc (.cells #[.int .u32 (f.p : Int), .int .u32 (f.root : Int), .int .u32 (f.neg : Int), .int .u32 (f.square : Int), .int .u32 (f.ahead : Int)] 77)).alloc (.cells #[.int .u32 (g.p : Int), .int .u32 (g.root : Int), .int .u32 (g.neg : Int), .int .u32 (g.square : Int), .int .u32 (g.ahead : Int)] 77)).heap.size = w.heap.size + 1 + 1 := by simp
  rw [s1] at h2
  rw [s2] at h3
  exact ⟨(h1.ext (((Ext.refl _).alloc _).alloc _)).ext ((Ext.refl _).drew), (h2.ext ((Ext.refl _).alloc _)).ext ((Ext.refl _).drew), h3.ext ((Ext.refl _).drew), (((((Ext.refl w).alloc _).alloc _).alloc _).drew)⟩

set_option maxRecDepth 100000 in
set_option maxHeartbeats 4000000 in
theorem join_calls (w : World) (hg : Gl w) (N x y z : Nat) (hx : N % F0.p = x) (hy : N % F1.p = y) (hz : N % F2.p = z) (hN : N < F0.p * F1.p * F2.p) :
    Calls Tryd.prog 57 #[.int .u32 (x : Nat), .int .u32 (y : Nat), .int .u32 (z : Nat)] w fun e w' => e = .returned (.agg #[.int .u32 (N % 4294967296 : Nat), .int .u32 (N / 4294967296 % 4294967296 : Nat), .int .u32 (N / 18446744073709551616 % 4294967296 : Nat)]) ∧ Ext w w' := by
  obtain ⟨hw0, ⟨a0, a1, a2, a3, a4⟩, ⟨b0, b1, b2, b3, b4⟩, ⟨c0, c1, c2, c3, c4⟩⟩ := hg
  have HJ := Lib.hid (join_math N x y z hx hy hz hN)
  have G0 := F0_fld.good
  have G1 := F1_fld.good
  have G2 := F2_fld.good
  have hx1 : x < F0.p := by rw [← hx]; exact Nat.mod_lt _ (by decide)
  have hy1 : y < F1.p := by rw [← hy]; exact Nat.mod_lt _ (by decide)
  have hz1 : z < F2.p := by rw [← hz]; exact Nat.mod_lt _ (by decide)
  have hN2 : N < 1237940039285380274899124224 := Nat.lt_trans hN (by decide)
  clear hx hy hz hN
  generalize F0 = f at *
  generalize F1 = g at *
  generalize F2 = h at *
  have p0 := G0.p1
  have p1 := G1.p1
  have p2 := G2.p1
  have q1 := G1.p0
  have q2 := G2.p0
  simp only [Nat.zero_add] at a0 a1 a2 a3 a4
  have b1 : w.cell? ⟨0, 6, none⟩ = _ := b1
  have b2 : w.cell? ⟨0, 7, none⟩ = _ := b2
  have b3 : w.cell? ⟨0, 8, none⟩ = _ := b3
  have b4 : w.cell? ⟨0, 9, none⟩ = _ := b4
  have c1 : w.cell? ⟨0, 11, none⟩ = _ := c1
  have c2 : w.cell? ⟨0, 12, none⟩ = _ := c2
  have c3 : w.cell? ⟨0, 13, none⟩ = _ := c3
  have c4 : w.cell? ⟨0, 14, none⟩ = _ := c4
  obtain ⟨n0, hn0⟩ : ∃ n0, N % 4294967296 = n0 := ⟨_, rfl⟩
  obtain ⟨n1, hn1⟩ : ∃ n1, N / 4294967296 % 4294967296 = n1 := ⟨_, rfl⟩
  obtain ⟨n2, hn2⟩ : ∃ n2, N / 18446744073709551616 % 4294967296 = n2 := ⟨_, rfl⟩
  rw [hn0, hn1, hn2]
  have HN0 := Lib.hid hn0
  have HN1 := Lib.hid hn1
  have HN2 := Lib.hid hn2
  clear hn0 hn1 hn2
  go_enter Tryd.func57, Tryd.ntmps57
  go_upto_region 1 with (fail)
  have hE0 : Ext w (w.alloc (.cells #[.int .u32 0, .int .u32 0, .int .u32 0] 50)) := (Ext.refl w).alloc _
  go_cut [7, 8, 9] from 16 to 21 (fun s7 s8 s9 wx => ∃ (B7 B8 B9 : Nat), s7 = .pointer (some ⟨B7, 0, none⟩) ∧ s8 = .pointer (some ⟨B8, 0, none⟩) ∧ s9 = .pointer (some ⟨B9, 0, none⟩) ∧ Bx wx B7 f ∧ Bx wx B8 g ∧ Bx wx B9 h ∧ w.heap.size ≠ B7 ∧ w.heap.size ≠ B8 ∧ w.heap.size ≠ B9 ∧ Ext (w.alloc (.cells #[.int .u32 0, .int .u32 0, .int .u32 0] 50)) wx)
  case first =>
    have hsz : (w.alloc (.cells #[.int .u32 0, .int .u32 0, .int .u32 0] 50)).heap.size = w.heap.size + 1 := by simp
    go_region
    all_goals
      (go_wp2_with (fail)
       go_meet
       first
        | exact ⟨_, _, _, rfl, rfl, rfl, (three _ (w.heap.size + 1) hsz f g h).1, (three _ (w.heap.size + 1) hsz f g h).2.1, (three _ (w.heap.size + 1) hsz f g h).2.2.1, by omega, by omega, by omega, (three _ (w.heap.size + 1) hsz f g h).2.2.2⟩
        | exact ⟨_, _, _, rfl, rfl, rfl, (three _ (w.heap.size + 1) hsz f h g).1, (three _ (w.heap.size + 1) hsz f h g).2.2.1, (three _ (w.heap.size + 1) hsz f h g).2.1, by omega, by omega, by omega, (three _ (w.heap.size + 1) hsz f h g).2.2.2⟩
        | exact ⟨_, _, _, rfl, rfl, rfl, (three _ (w.heap.size + 1) hsz g f h).2.1, (three _ (w.heap.size + 1) hsz g f h).1, (three _ (w.heap.size + 1) hsz g f h).2.2.1, by omega, by omega, by omega, (three _ (w.heap.size + 1) hsz g f h).2.2.2⟩
        | exact ⟨_, _, _, rfl, rfl, rfl, (three _ (w.heap.size + 1) hsz g h f).2.2.1, (three _ (w.heap.size + 1) hsz g h f).1, (three _ (w.heap.size + 1) hsz g h f).2.1, by omega, by omega, by omega, (three _ (w.heap.size + 1) hsz g h f).2.2.2⟩
        | exact ⟨_, _, _, rfl, rfl, rfl, (three _ (w.heap.size + 1) hsz h f g).2.1, (three _ (w.heap.size + 1) hsz h f g).2.2.1, (three _ (w.heap.size + 1) hsz h f g).1, by omega, by omega, by omega, (three _ (w.heap.size + 1) hsz h f g).2.2.2⟩
        | exact ⟨_, _, _, rfl, rfl, rfl, (three _ (w.heap.size + 1) hsz h g f).2.2.1, (three _ (w.heap.size + 1) hsz h g f).2.1, (three _ (w.heap.size + 1) hsz h g f).1, by omega, by omega, by omega, (three _ (w.heap.size + 1) hsz h g f).2.2.2⟩)
  case rest =>
    obtain ⟨B7, B8, B9, rfl, rfl, rfl, hX7, hX8, hX9, hn7, hn8, hn9, hE⟩ := hcut
    have hE0' := hE0
    have r0 : (w.alloc (.cells #[.int .u32 0, .int .u32 0, .int .u32 0] 50)).cell? ⟨w.heap.size, 0, none⟩ = some (.int .u32 0) := by go_simp
    have r1 : (w.alloc (.cells #[.int .u32 0, .int .u32 0, .int .u32 0] 50)).cell? ⟨w.heap.size, 1, none⟩ = some (.int .u32 0) := by go_simp
    have r2 : (w.alloc (.cells #[.int .u32 0, .int .u32 0, .int .u32 0] 50)).cell? ⟨w.heap.size, 2, none⟩ = some (.int .u32 0) := by go_simp
    have f0 : (w.alloc (.cells #[.int .u32 0, .int .u32 0, .int .u32 0] 50)).frozen? ⟨w.heap.size, 0, none⟩ = false := by go_simp
    have f1 : (w.alloc (.cells #[.int .u32 0, .int .u32 0, .int .u32 0] 50)).frozen? ⟨w.heap.size, 1, none⟩ = false := by go_simp
    have f2 : (w.alloc (.cells #[.int .u32 0, .int .u32 0, .int .u32 0] 50)).frozen? ⟨w.heap.size, 2, none⟩ = false := by go_simp
    generalize w.alloc (.cells #[.int .u32 0, .int .u32 0, .int .u32 0] 50) = w1 at *
    clear a0 a1 a2 a3 a4 b0 b1 b2 b3 b4 c0 c1 c2 c3 c4 hE0'
    -- the second digit
    obtain ⟨xm, hxm⟩ : ∃ xm, x % g.p = xm := ⟨_, rfl⟩
    have hxmp : xm < g.p := by rw [← hxm]; exact Nat.mod_lt _ (by omega)
    have hmi : (x : Int) % (g.p : Int) = (xm : Int) := by rw [← hxm, Int.natCast_emod]
    have hmt : ((x : Int)).tmod (g.p : Int) = (xm : Int) := by rw [Int.tmod_eq_emod_of_nonneg (by omega)]; exact hmi
    have hgz : ¬ ((g.p : Int) = 0) := by omega
    have hgz2 : ¬ (g.p = 0) := by omega
    have hgz3 : ((g.p : Int) == 0) = false := by rw [beq_eq_false_iff_ne]; omega
    have hxw : IntKind.u32.wrap (xm : Int) = (xm : Int) := by rw [IntKind.wrap_u32]; omega
    obtain ⟨s1, hs1⟩ : ∃ s1, (y + g.p - xm) % g.p = s1 := ⟨_, rfl⟩
    have hs1p : s1 < g.p := by rw [← hs1]; exact Nat.mod_lt _ (by omega)
    have hSub := Lib.hid (fun W => sub_calls W g G1 y xm hy1 hxmp)
    rw [hs1] at hSub
    have hga := G1.ab
    have hMul := Lib.hid (fun W => mul_calls W g G1 s1 g.ahead (by omega) (by omega) (lt_prod (by omega) hga))
    obtain ⟨v, hv⟩ : ∃ v, mm g s1 g.ahead = v := ⟨_, rfl⟩
    have hvp : v < g.p := by rw [← hv]; exact mm_lt g G1 _ _
    rw [hv] at hMul
    have HV : Hid (v = mm g ((y + g.p - x % g.p) % g.p) g.ahead) := by rw [Hid, hxm, hs1, hv]
    clear hxm hs1 hv
    have hS2 : (B8 < wc.drew.heap.size ∧ wc.drew.cell? ⟨B8, 0, none⟩ = some (.int .u32 (g.p : Int)) ∧ wc.drew.cell? ⟨B8, 1, none⟩ = some (.int .u32 (g.root : Int)) ∧ wc.drew.cell? ⟨B8, 2, none⟩ = some (.int .u32 (g.neg : Int)) ∧ wc.drew.cell? ⟨B8, 3, none⟩ = some (.int .u32 (g.square : Int)) ∧ wc.drew.cell? ⟨B8, 4, none⟩ = some (.int .u32 (g.ahead : Int))) := hX8
    go_wp2_with (fail)
    go_region_held3 (fun X => (B8 < X.heap.size ∧ X.cell? ⟨B8, 0, none⟩ = some (.int .u32 (g.p : Int)) ∧ X.cell? ⟨B8, 1, none⟩ = some (.int .u32 (g.root : Int)) ∧ X.cell? ⟨B8, 2, none⟩ = some (.int .u32 (g.neg : Int)) ∧ X.cell? ⟨B8, 3, none⟩ = some (.int .u32 (g.square : Int)) ∧ X.cell? ⟨B8, 4, none⟩ = some (.int .u32 (g.ahead : Int))))
      (first
        | exact hS2
        | assumption
        | exact keep5 (by assumption) (by assumption))
      (first
        | (go_at_call 80; ((with_reducible refine (hSub.out _).mono ?_); rintro e w3 ⟨rfl, hB3⟩))
        | (go_at_call 75; ((with_reducible refine (hMul.out _).mono ?_); rintro e w4 ⟨rfl, hB4⟩)))
    have hE4 : Ext wc w4 := (drawn hB3).below hB4
    clear hB3 hB4 hS2 hSub hMul hmi hmt hgz hgz2 hgz3 hxw
    replace hX7 := hX7.ext hE4
    replace hX8 := hX8.ext hE4
    replace hX9 := hX9.ext hE4
    replace hE := hE.below hE4
    -- low
    obtain ⟨fv, hfv⟩ : ∃ fv, f.p * v = fv := ⟨_, rfl⟩
    have hfvi : (f.p : Int) * (v : Int) = (fv : Int) := by rw [← hfv, Int.natCast_mul]
    have hfvb : fv < 1152921504606846976 := by rw [← hfv]; exact Nat.lt_of_le_of_lt (Nat.mul_le_mul (Nat.le_of_lt p0) (Nat.le_of_lt hvp)) (by omega)
    have hfvw : IntKind.u64.wrap (fv : Int) = (fv : Int) := by rw [IntKind.wrap_u64]; omega
    obtain ⟨low, hlow⟩ : ∃ low, fv + x = low := ⟨_, rfl⟩
    have hlowi : (fv : Int) + (x : Int) = (low : Int) := by omega
    have hloww : IntKind.u64.wrap (low : Int) = (low : Int) := by rw [IntKind.wrap_u64]; omega
    have HLW : Hid (low = f.p * v + x) := by rw [Hid, hfv, hlow]
    have hlowb : low < 2305843009213693952 := by omega
    obtain ⟨d0, d1, d2, d3, d4, d5⟩ := id hX7
    clear hfv hlow
    have hpw : IntKind.u64.wrap (f.p : Int) = (f.p : Int) := by rw [IntKind.wrap_u64]; omega
    have hvw : IntKind.u64.wrap (v : Int) = (v : Int) := by rw [IntKind.wrap_u64]; omega
    have hxw : IntKind.u64.wrap (x : Int) = (x : Int) := by rw [IntKind.wrap_u64]; omega
    go_upto_region 4 with (fail)
    -- the third digit
    clear hfvi hlowi hpw hvw hxw d0 d1 d2 d3 d4 d5
    obtain ⟨lm, hlm⟩ : ∃ lm, low % h.p = lm := ⟨_, rfl⟩
    have hlmp : lm < h.p := by rw [← hlm]; exact Nat.mod_lt _ (by omega)
    have hmi : (low : Int) % (h.p : Int) = (lm : Int) := by rw [← hlm, Int.natCast_emod]
    have hmt : ((low : Int)).tmod (h.p : Int) = (lm : Int) := by rw [Int.tmod_eq_emod_of_nonneg (by omega)]; exact hmi
    have hgz : ¬ ((h.p : Int) = 0) := by omega
    have hgz2 : ¬ (h.p = 0) := by omega
    have hgz3 : ((h.p : Int) == 0) = false := by rw [beq_eq_false_iff_ne]; omega
    have hxw : IntKind.u32.wrap (lm : Int) = (lm : Int) := by rw [IntKind.wrap_u32]; omega
    have hxw2 : IntKind.u64.wrap (lm : Int) = (lm : Int) := by rw [IntKind.wrap_u64]; omega
    have hhw : IntKind.u64.wrap (h.p : Int) = (h.p : Int) := by rw [IntKind.wrap_u64]; omega
    obtain ⟨s2, hs2⟩ : ∃ s2, (z + h.p - lm) % h.p = s2 := ⟨_, rfl⟩
    have hs2p : s2 < h.p := by rw [← hs2]; exact Nat.mod_lt _ (by omega)
    have hSub := Lib.hid (fun W => sub_calls W h G2 z lm hz1 hlmp)
    rw [hs2] at hSub
    have hga2 := G2.ab
    have hMul := Lib.hid (fun W => mul_calls W h G2 s2 h.ahead (by omega) (by omega) (lt_prod (by omega) hga2))
    obtain ⟨wv, hwv⟩ : ∃ wv, mm h s2 h.ahead = wv := ⟨_, rfl⟩
    have hwvp : wv < h.p := by rw [← hwv]; exact mm_lt h G2 _ _
    rw [hwv] at hMul
    have HW : Hid (wv = mm h ((z + h.p - low % h.p) % h.p) h.ahead) := by rw [Hid, hlm, hs2, hwv]
    clear hlm hs2 hwv
    have hS4 : (B9 < w4.drew.heap.size ∧ w4.drew.cell? ⟨B9, 0, none⟩ = some (.int .u32 (h.p : Int)) ∧ w4.drew.cell? ⟨B9, 1, none⟩ = some (.int .u32 (h.root : Int)) ∧ w4.drew.cell? ⟨B9, 2, none⟩ = some (.int .u32 (h.neg : Int)) ∧ w4.drew.cell? ⟨B9, 3, none⟩ = some (.int .u32 (h.square : Int)) ∧ w4.drew.cell? ⟨B9, 4, none⟩ = some (.int .u32 (h.ahead : Int))) := hX9
    go_region_held3 (fun X => (B9 < X.heap.size ∧ X.cell? ⟨B9, 0, none⟩ = some (.int .u32 (h.p : Int)) ∧ X.cell? ⟨B9, 1, none⟩ = some (.int .u32 (h.root : Int)) ∧ X.cell? ⟨B9, 2, none⟩ = some (.int .u32 (h.neg : Int)) ∧ X.cell? ⟨B9, 3, none⟩ = some (.int .u32 (h.square : Int)) ∧ X.cell? ⟨B9, 4, none⟩ = some (.int .u32 (h.ahead : Int))))
      (first
        | exact hS4
        | assumption
        | exact keep5 (by assumption) (by assumption))
      (first
        | (go_at_call 80; ((with_reducible refine (hSub.out _).mono ?_); rintro e w5 ⟨rfl, hB5⟩))
        | (go_at_call 75; ((with_reducible refine (hMul.out _).mono ?_); rintro e w6 ⟨rfl, hB6⟩)))
    have hE6 : Ext w4 w6 := (drawn hB5).below hB6
    clear hB5 hB6 hS4 hSub hMul hmi hmt hgz hgz2 hgz3 hxw hxw2 hX9
    replace hX7 := hX7.ext hE6
    replace hX8 := hX8.ext hE6
    replace hE := hE.below hE6
    -- all together
    obtain ⟨HJ1, _⟩ := HJ.out v low wv HV.out HLW.out HW.out
    obtain ⟨M, hM⟩ : ∃ M, f.p * g.p = M := ⟨_, rfl⟩
    have hMb : M < 1152921504606846977 := by rw [← hM]; exact Nat.lt_of_le_of_lt (Nat.mul_le_mul (Nat.le_of_lt p0) (Nat.le_of_lt p1)) (by omega)
    have hMi : (f.p : Int) * (g.p : Int) = (M : Int) := by rw [← hM, Int.natCast_mul]
    have hMw : IntKind.u64.wrap (M : Int) = (M : Int) := by rw [IntKind.wrap_u64]; omega
    have hpw : IntKind.u64.wrap (f.p : Int) = (f.p : Int) := by rw [IntKind.wrap_u64]; omega
    have hgw : IntKind.u64.wrap (g.p : Int) = (g.p : Int) := by rw [IntKind.wrap_u64]; omega
    have hww : IntKind.u64.wrap (wv : Int) = (wv : Int) := by rw [IntKind.wrap_u64]; omega
    have hM64 := Lib.hid (fun W => mul64_calls M wv (by omega) (by omega) W)
    rw [hM] at HJ1
    obtain ⟨T, hT⟩ : ∃ T, M * wv = T := ⟨_, rfl⟩
    rw [hT] at HJ1 hM64
    obtain ⟨hi, hhi⟩ : ∃ hi, T / 18446744073709551616 = hi := ⟨_, rfl⟩
    obtain ⟨lo, hlo⟩ : ∃ lo, T % 18446744073709551616 = lo := ⟨_, rfl⟩
    rw [hhi, hlo] at hM64
    have hadd := fun w => run_add lo low w
    obtain ⟨l1, hl1⟩ : ∃ l1, (lo + low) % 18446744073709551616 = l1 := ⟨_, rfl⟩
    obtain ⟨k1, hk1⟩ : ∃ k1, (lo + low) / 18446744073709551616 = k1 := ⟨_, rfl⟩
    rw [hl1, hk1] at hadd
    have hn0 := HN0.out
    have hn1 := HN1.out
    have hn2 := HN2.out
    have e0 : l1 % 4294967296 = n0 := by omega
    have e1 : l1 / 4294967296 = n1 := by omega
    have e2 : hi + k1 = n2 := by omega
    have bl : l1 < 18446744073709551616 := by omega
    have d0 : n0 < 4294967296 := by omega
    have d1 : n1 < 4294967296 := by omega
    have d2 : n2 < 4294967296 := by omega
    have bhi : hi ≤ n2 := by omega
    have bk1 : k1 ≤ n2 := by omega
    have i0 : (l1 : Int) % 4294967296 = (n0 : Int) := by omega
    have i0w : IntKind.u32.wrap (l1 : Int) = (n0 : Int) := by rw [IntKind.wrap_u32]; omega
    have i1 : (l1 : Int) / 4294967296 = (n1 : Int) := by omega
    have i1w : IntKind.u32.wrap (n1 : Int) = (n1 : Int) := by rw [IntKind.wrap_u32]; omega
    have i1m : (n1 : Int) % 4294967296 = (n1 : Int) := by omega
    have i2 : (hi : Int) + (k1 : Int) = (n2 : Int) := by omega
    have i2w : IntKind.u32.wrap (n2 : Int) = (n2 : Int) := by rw [IntKind.wrap_u32]; omega
    have i2x : IntKind.u64.wrap (n2 : Int) = (n2 : Int) := by rw [IntKind.wrap_u64]; omega
    have i2m : (n2 : Int) % 4294967296 = (n2 : Int) := by omega
    clear hM hT hhi hlo hl1 hk1 hn0 hn1 hn2 e0 e1 e2 HJ1
    obtain ⟨d0, d1, d2, d3, d4, d5⟩ := id hX7
    obtain ⟨e0, e1, e2, e3, e4, e5⟩ := id hX8
    go_wp2_with (fail)
    refine (hM64.out _).mono ?_
    rintro e w7 ⟨rfl, rfl⟩
    replace f0 := kept_free hE r0 f0
    replace f1 := kept_free hE r1 f1
    replace f2 := kept_free hE r2 f2
    replace r0 := kept_cell hE r0
    replace r1 := kept_cell hE r1
    replace r2 := kept_cell hE r2
    have hEw : Ext w w7 := hE0.below hE
    clear d0 d1 d2 d3 d4 d5 e0 e1 e2 e3 e4 e5 hX7 hX8 hE hM64
    go_wp2
    refine bodyPost_ret (v := .agg #[.int .u32 (n0 : Nat), .int .u32 (n1 : Nat), .int .u32 (n2 : Nat)]) ?_ rfl ⟨rfl, ?_⟩
    · simp [results, Tryd.results57, go_sem, *]
    · exact ((hEw.setCell (p := ⟨w.heap.size, 0, none⟩) (Nat.le_refl _) _).setCell (p := ⟨w.heap.size, 1, none⟩) (Nat.le_refl _) _).setCell (p := ⟨w.heap.size, 2, none⟩) (Nat.le_refl _) _
end Go.Proofs.YtkmejhkdmnjbeaaDoor
