/- What every statement's proof ends with: the table read; the arguments opened, and read again behind the call. -/
import Derived.Test.YtbdmncpibnligaaGreatDoorBag
import Derived.Test.YtbdmncpibnligaaGreatDoorBaf
import Derived.Test.YtbdmncpibnligaaGreatDoorRows
import Derived.Test.YtbdmncpibnligaaGreatDoorCards
import Derived.Test.YtbdmncpibnligaaGreatDoorTie
import Derived.SevenTiedAt
import Derived.LaidMore
import Derived.Stop.Joined
import Derived.JoinedOf
import Derived.JoinedAt
import Derived.Lib.SmallJoins
import Derived.Laws.BitsLemmas
import Derived.Deep.RegionHeld3
import Derived.Maps.AppendAt
import Derived.Deep.Cut
import Derived.Deep.CutRange
import Derived.Shelf.Bits.Mul64
import Derived.BigRegion

namespace Go.Proofs.YtbdmncpibnligaaGreatDoor
open Go.ChangeShapes Go.WideShapes Go.ChangeAt Go.RowKit
set_option linter.unusedVariables false
set_option maxRecDepth 100000

theorem own : ownKnob Tryz.prog.godebug = none := by kernel_rfl
theorem laidOut : laidOutB Tryz.prog = true := by kernel_rfl
theorem cells32 : Tryz.prog.cellsOf 36 = 1 := by kernel_rfl
abbrev laidT : List (String × DataW Unit) := [("ziggurat/ntt.fields", Rows.laid_ziggurat_ntt_fields)]

/-- The heap that the program's own text lays meets the condition. -/
theorem door_met (os : Os) (args : Array Value) : laidMetH Tryz.prog laidT ((World.doorLaid Tryz.prog 400 os).forCall (fun _ _ => 0) ⟨#[], args, []⟩).memory :=
  laidMetH_of_parts3 (fuel := 8) (laidMet_of_run' 8 (by kernel_rfl) (by kernel_rfl)) (by kernel_rfl) (by kernel_rfl)

/-- All arguments read behind a call that turns nothing as they read before it. -/
theorem trodAll_after {H : Type} {enc : TypeId × Value → H} {W W' : World} {sp : Nat → Bool} (hB : Ext W W') : ∀ {ts : List TypeId} {vs : List Value} {ds : List (DataW H)} {ps : List MemPlace},
    (∀ t ∈ ts, Tryz.prog.readableRec t = true ∧ t < Tryz.prog.types.size) → DataW.TrodAll enc Tryz.prog W 0 (fun _ => true) true ts vs ds ps → (∀ p ∈ ps, p.block < W.heap.size) → (∀ p ∈ ps, sp p.block = true) → DataW.TrodAll enc Tryz.prog W' 0 sp true ts vs ds ps
  | [], [], [], _, _, h, _, _ => h
  | t :: _, _ :: _, _ :: _, _, hT, ⟨p, q, h1, h2, e⟩, hlt, hs => ⟨p, q,
      WideElems.Trod_stays laidOut (hT t (List.mem_cons_self ..)).1 (hT t (List.mem_cons_self ..)).2 h1 (fun x hx => Below.same hB (hlt x (by rw [e]; exact List.mem_append_left _ hx))) (fun x hx => hs x (by rw [e]; exact List.mem_append_left _ hx)),
      trodAll_after hB (fun t ht => hT t (List.mem_cons_of_mem _ ht)) h2 (fun x hx => hlt x (by rw [e]; exact List.mem_append_right _ hx)) (fun x hx => hs x (by rw [e]; exact List.mem_append_right _ hx)), e⟩

/-- WHAT A STATEMENT ASKS BEHIND THE CALL: true; the arguments read as they did. -/
theorem law_post {H : Type} {enc : TypeId × Value → H} {f : Func} {s : ChangeSpec} {apart fresh handsOn again : Bool} {W W' : World} {args : Array Value} {ds gs : List (DataW H)} {before : List MemPlace}
    (hW : DataW.Whole enc Tryz.prog f.params.toList s.vars apart W args.toList ds gs before) (hv : s.vars = []) (hT : ∀ t ∈ f.params.toList, Tryz.prog.readableRec t = true ∧ t < Tryz.prog.types.size)
    (hres : f.resultTypes = #[4]) (hfn : (s.fn H (ds ++ gs)).results = [.lit (.bool true)]) (hfa : (s.fn H (ds ++ gs)).args = ds) (hfv : (s.fn H (ds ++ gs)).vars = []) (hB : Ext W W') :
    s.post enc Tryz.prog f apart fresh handsOn again W args (.bool true) W' := by
  have hlt : ∀ p ∈ before, p.block < W.heap.size := fun p hp => hW.lt p hp
  have hold : ∀ p ∈ before, (fun b => decide (b < W.heap.size)) p.block = true := fun p hp => by simpa using hlt p hp
  have hres' : ∀ (b : Nat) (sp : Nat → Bool) (hd : Bool), DataW.TrodAll enc Tryz.prog W' b sp hd f.resultTypes.toList ((Value.bool true).resultList f.resultTypes.size) (s.fn H (ds ++ gs)).results [] := by
    intro b sp hd
    rw [hres, hfn]
    exact trodAll_mk1 (shut_bool Tryz.underlying4 _)
  have hW2 := hW
  obtain ⟨p, q, hA, hV, hpq, hz, hn⟩ := hW
  rw [hv] at hV
  obtain ⟨_, rfl⟩ := trodVars_none hV
  rw [List.append_nil] at hpq
  subst hpq
  have hargs : ∀ sp : Nat → Bool, (∀ p' ∈ before, sp p'.block = true) → DataW.TrodAll enc Tryz.prog W' 0 sp true f.params.toList args.toList (s.fn H (ds ++ gs)).args before := fun sp hs => by
    rw [hfa]; exact trodAll_after hB hT hA hlt hs
  have hvars : ∀ sp : Nat → Bool, DataW.TrodVars enc Tryz.prog W' sp s.vars (s.fn H (ds ++ gs)).vars [] := fun sp => by rw [hv, hfv]; exact rfl
  refine ⟨ds, gs, before, [], before, [], hW2, hres' _ _ _, hargs _ hold, hvars _, World.keptBut_mono (fun p hp => ⟨hp, ?_⟩) (Below.frame hB (· ∈ before)), fun _ => ?_⟩
  · simpa using hp
  · refine ⟨ok_one hres rfl (okWide_bool_mk Tryz.underlying4 _), _, _, ([] ++ before) ++ [], ⟨[] ++ before, [], trodAll_append (hargs _ (fun _ _ => rfl)) (hres' _ _ _), hvars _, rfl, ?_, ?_⟩, ?_⟩
    · intro b off hp
      have hin : MemPlace.cell b off ∈ before := by simpa using hp
      rw [Below.frozen hB (hlt _ hin)]
      exact hz b off hin
    · intro ha
      have := hn ha
      simpa using this
    · intro p hp _
      simpa using hp

/-- A slice of 32-bit limbs among the arguments. -/
theorem open_limbs {H : Type} {enc : TypeId × Value → H} {W : World} {base : Nat} {v : Value} {d : DataW H} {ps : List MemPlace} (hval : Value.okWide Tryz.prog W .any base 22 v) (h : DataW.Trod enc Tryz.prog W 0 (fun _ => true) true 22 v d ps)
    (hlt : ∀ p ∈ ps, p.block < W.heap.size) : ∃ xs : List Nat, U W v xs := by
  obtain ⟨a0, len, cap, rfl⟩ := okWide_slice Tryz.underlying22 hval
  obtain ⟨fuel, hf⟩ := h
  rcases open_ints Tryz.underlying22 Tryz.underlying36 cells32 hf with ⟨hcs, hx⟩ | ⟨a, len', cap', zs, hcs, _, hl, hm, hz, hx, hcell, hwz⟩
  · simp [Value.cells] at hcs
    obtain ⟨rfl, rfl, rfl⟩ := hcs
    exact ⟨[], U.nil_ _ _ _⟩
  · simp [Value.cells] at hcs
    obtain ⟨rfl, rfl, rfl⟩ := hcs
    simp only [if_true] at hz
    have hlen : ((zs.take len).map Int.toNat).length = len := by simp; omega
    have hb : ∀ z ∈ zs, 0 ≤ z ∧ z < 4294967296 := fun z hzz => by have := bounds_u32 (hwz z hzz); omega
    refine ⟨(zs.take len).map Int.toNat, some a, cap, by rw [hlen], ⟨by rw [hlen]; exact hl, by rw [hlen]; unfold maxLen at hm; omega⟩, ?_, fun h0 => ⟨a, rfl, ?_, fun j hj => ?_⟩⟩
    · intro x hx'
      obtain ⟨z, hz1, rfl⟩ := List.mem_map.1 hx'
      have := hb z (List.mem_of_mem_take hz1)
      omega
    · rw [hlen] at h0
      have hc := hcell 0 (by omega)
      rw [addr_add_zero] at hc
      unfold World.cell? at hc
      rcases Nat.lt_or_ge a.block W.heap.size with h | h
      · exact h
      · rw [Array.getElem?_eq_none h] at hc; cases hc
    · rw [hlen] at hj
      have hjz : j < zs.length := by omega
      have e : lb ((zs.take len).map Int.toNat) j = (zs.getD j 0).toNat := by
        simp [lb, hj, hjz]
      rw [hcell j hjz, e]
      have hmem : zs.getD j 0 ∈ zs := by simp [hjz]
      have := hb _ hmem
      rw [show (((zs.getD j 0).toNat : Nat) : Int) = zs.getD j 0 by omega]
end Go.Proofs.YtbdmncpibnligaaGreatDoor
/- The document's own words that every statement of this stage takes: primes, rows of numbers, lengths. -/
namespace Go.Proofs.YtbdmncpibnligaaGreatDoor
open Go.ChangeShapes Go.WideShapes Go.ChangeAt Go.RowKit
set_option linter.unusedVariables false
set_option maxHeartbeats 400000

/-- 2^k numbers below p, made of any ones. -/
def rowv (p k : Nat) (l : List Nat) : List Nat := (List.range (2 ^ k)).map fun t => lb l t % p
theorem rowv_len (p k : Nat) (l : List Nat) : (rowv p k l).length = 2 ^ k := by simp [rowv]
theorem lb_rowv (p k : Nat) (l : List Nat) (j : Nat) (h : j < 2 ^ k) : lb (rowv p k l) j = lb l j % p := lb_map _ _ _ h
structure RowI (p n : Nat) (l : List Nat) (t : Nat) (o : List Nat) : Prop where
  len : o.length = n
  lt : ∀ x ∈ o, x < p
  at_ : ∀ j, lb o j = if j < t then lb l j % p else 0
theorem RowI.start (p n : Nat) (l : List Nat) (hp : 0 < p) : RowI p n l 0 (List.replicate n 0) := ⟨by simp, fun x hx => by simp at hx; omega, fun j => by rw [lb_zeros, if_neg (by omega)]⟩
theorem RowI.step {p n : Nat} {l : List Nat} {t : Nat} {o : List Nat} (H : RowI p n l t o) (hp : 0 < p) (ht : t < n) : RowI p n l (t + 1) (o.set t (lb l t % p)) := by
  refine ⟨by simp [H.len], set_lt H.lt (Nat.mod_lt _ hp), fun j => ?_⟩
  rw [lb_set _ _ _ _ (by rw [H.len]; exact ht), H.at_ j]
  by_cases e : t = j
  · subst e; rw [if_pos rfl, if_pos (by omega)]
  · rw [if_neg e]
    by_cases c : j < t
    · rw [if_pos c, if_pos (by omega)]
    · rw [if_neg c, if_neg (by omega)]
theorem RowI.done {p k : Nat} {l : List Nat} {t : Nat} {o : List Nat} (H : RowI p (2 ^ k) l t o) (ht : t = 2 ^ k ∨ l.length ≤ t) : o = rowv p k l := by
  refine ext_lb (by rw [H.len, rowv_len]) fun j hj => ?_
  rw [H.len] at hj
  rw [lb_rowv _ _ _ _ hj, H.at_ j]
  by_cases c : j < t
  · rw [if_pos c]
  · rw [if_neg c, lb_out (o := l) (by omega), Nat.zero_mod]

end Go.Proofs.YtbdmncpibnligaaGreatDoor
/- Lengths of powers of 2; the row of a question; a question among the arguments. -/
namespace Go.Proofs.YtbdmncpibnligaaGreatDoor
open Go.ChangeShapes Go.WideShapes Go.ChangeAt Go.RowKit
set_option linter.unusedVariables false
set_option maxHeartbeats 400000

/-- The prime's number, and how many numbers, that a question names. -/
def ri (I : Int) : Nat := (I % 256).toNat % 3
end Go.Proofs.YtbdmncpibnligaaGreatDoor
/- What a transform undoes, turns, and does to sums and products. -/
namespace Go.Proofs.YtbdmncpibnligaaGreatDoor

theorem mul_pow (a b : Int) (n : Nat) : (a * b) ^ n = a ^ n * b ^ n := by
  induction n with
  | zero => simp
  | succ n ih => rw [Int.pow_succ, Int.pow_succ, Int.pow_succ, ih]; grind
end Go.Proofs.YtbdmncpibnligaaGreatDoor
/- What the transform does, number by number. -/
namespace Go.Proofs.YtbdmncpibnligaaGreatDoor
open Go.RowKit
set_option linter.unusedVariables false

/-- The root and the share, either way. -/
def tw (i k : Nat) (b : Bool) : Nat := if b then bt (fd i) k else rt (fd i) k
def ts (i k : Nat) (b : Bool) : Nat := if b then sh (fd i) (2 ^ k) else 1
end Go.Proofs.YtbdmncpibnligaaGreatDoor
/- A question in its box; slices opened. -/
namespace Go.Proofs.YtbdmncpibnligaaGreatDoor
open Go.RowKit
set_option linter.unusedVariables false
set_option maxHeartbeats 400000

def Ax (w : World) (B : Nat) (I K : Int) (sl : Value) (bk : Bool) : Prop := B < w.heap.size ∧ w.cell? ⟨B, 0, none⟩ = some (.int .i64 I) ∧ w.cell? ⟨B, 1, none⟩ = some (.int .i64 K) ∧ w.cell? ⟨B, 2, none⟩ = some sl ∧ w.cell? ⟨B, 3, none⟩ = some (.bool bk)
theorem Ax.ext {w w' : World} {B : Nat} {I K : Int} {sl : Value} {bk : Bool} (h : Ax w B I K sl bk) (hB : Ext w w') : Ax w' B I K sl bk := by
  obtain ⟨h0, h1, h2, h3, h4⟩ := h
  have hs := hB.size
  have hc := fun o => hB.cell (p := ⟨B, o, none⟩) h0
  exact ⟨by omega, by rw [hc]; exact h1, by rw [hc]; exact h2, by rw [hc]; exact h3, by rw [hc]; exact h4⟩
theorem U.opened {w : World} {v : Value} {xs : List Nat} (h : U w v xs) {n : Nat} (hn : xs.length = n) (h0 : 0 < n) : ∃ ad c, v = .slice (some ad) n c ∧ n ≤ c ∧ ad.block < w.heap.size ∧ ∀ j, j < n → w.cell? (ad.add j) = some (.int .u32 (lb xs j : Nat)) := by
  obtain ⟨A, c, rfl, ⟨hc, _⟩, _, hr⟩ := h
  subst hn
  obtain ⟨ad, rfl, hb, hcell⟩ := hr h0
  exact ⟨ad, c, rfl, hc, hb, hcell⟩
end Go.Proofs.YtbdmncpibnligaaGreatDoor
/- A row that grows while others lie by. -/
namespace Go.Proofs.YtbdmncpibnligaaGreatDoor
open Go.RowKit
set_option linter.unusedVariables false
set_option maxHeartbeats 400000

/-- A row in block B or in one that is new. -/
structure Apart (B : Nat) (w0 w : World) (v : Value) (o : List Nat) : Prop where
  own : Own w B v o
  but : But B w0 w
  at_ : ∀ g, v.ownBlock = some g → g = B ∨ w0.heap.size ≤ g
theorem Apart.drew {B : Nat} {w0 w : World} {v : Value} {o : List Nat} (h : Apart B w0 w v o) : Apart B w0 w.drew v o := ⟨h.own.drew, h.but.drew, h.at_⟩
theorem Apart.cell {B : Nat} {w0 w : World} {v : Value} {o : List Nat} (h : Apart B w0 w v o) {p : Addr} (hp : p.block < w0.heap.size) (hne : p.block ≠ B) : w.cell? p = w0.cell? p := h.but.cell hp hne
end Go.Proofs.YtbdmncpibnligaaGreatDoor
/- A row laid in, modulo a prime, and down. -/
namespace Go.Proofs.YtbdmncpibnligaaGreatDoor
open Go.RowKit
set_option linter.unusedVariables false
set_option maxHeartbeats 400000

/-- The numbers, times 2^32, and noughts behind them. -/
def ml (f : Fd) (n : Nat) (l : List Nat) : List Nat := (List.range n).map fun j => mont f (lb l j)
theorem ml_len (f : Fd) (n : Nat) (l : List Nat) : (ml f n l).length = n := by simp [ml]
theorem ml_at (f : Fd) (n : Nat) (l : List Nat) (j : Nat) (h : j < n) : lb (ml f n l) j = mont f (lb l j) := lb_map _ _ _ h
structure MlI (f : Fd) (n : Nat) (l : List Nat) (j : Nat) (o : List Nat) : Prop where
  len : o.length = n
  lt : ∀ x ∈ o, x < f.p
  at_ : ∀ q, lb o q = if q < j then mont f (lb l q) else 0
theorem MlI.start (f : Fd) (hf : Good f) (n : Nat) (l : List Nat) : MlI f n l 0 (List.replicate n 0) :=
  ⟨by simp, fun x hx => by have := hf.p0; rw [List.eq_of_mem_replicate hx]; omega, fun q => by rw [lb_zeros, if_neg (by omega)]⟩
theorem MlI.step {f : Fd} (hf : Good f) {n : Nat} {l : List Nat} {j : Nat} {o : List Nat} (H : MlI f n l j o) (hj : j < n) : MlI f n l (j + 1) (o.set j (mont f (lb l j))) := by
  refine ⟨by simp [H.len], set_lt H.lt (mont_lt f hf _), fun q => ?_⟩
  rw [lb_set _ _ _ _ (by rw [H.len]; exact hj)]
  by_cases e : j = q
  · subst e; rw [if_pos rfl, if_pos (by omega)]
  · rw [if_neg e, H.at_ q]
    by_cases c : q < j
    · rw [if_pos c, if_pos (by omega)]
    · rw [if_neg c, if_neg (by omega)]
theorem lb_past (l : List Nat) (j : Nat) (h : l.length ≤ j) : lb l j = 0 := by unfold lb; rw [List.getElem?_eq_none h]; rfl
theorem mont_zero (f : Fd) : mont f 0 = 0 := by unfold mont; rw [Nat.zero_mul, Nat.zero_mod]
theorem MlI.done {f : Fd} {n : Nat} {l : List Nat} {o : List Nat} (H : MlI f n l l.length o) : o = ml f n l := by
  refine ext_lb (by rw [H.len, ml_len]) fun q hq => ?_
  rw [ml_at f n l q (by rw [← H.len]; exact hq), H.at_ q]
  by_cases c : q < l.length
  · rw [if_pos c]
  · rw [if_neg c, lb_past l q (by omega), mont_zero]

end Go.Proofs.YtbdmncpibnligaaGreatDoor
/- Sums of products modulo a prime, by transforms. -/
namespace Go.Proofs.YtbdmncpibnligaaGreatDoor
open Go.RowKit
set_option linter.unusedVariables false
set_option maxHeartbeats 400000

theorem drawn {x y : World} (hB : Ext x.drew y) : Ext x y := ((Ext.refl x).drew).below hB
/-- The first m numbers put anew. -/
structure Upd (n p : Nat) (G : Nat → Nat) (m : Nat) (l o : List Nat) : Prop where
  len : o.length = n
  lt : ∀ x ∈ o, x < p
  at_ : ∀ i, lb o i = if i < m then G i else lb l i
theorem Upd.start {n p : Nat} {G : Nat → Nat} {l : List Nat} (h : l.length = n) (hl : ∀ x ∈ l, x < p) : Upd n p G 0 l l := ⟨h, hl, fun i => by rw [if_neg (by omega)]⟩
theorem Upd.step {n p : Nat} {G : Nat → Nat} {m : Nat} {l o : List Nat} (H : Upd n p G m l o) (hm : m < n) (hG : G m < p) : Upd n p G (m + 1) l (o.set m (G m)) := by
  refine ⟨by simp [H.len], set_lt H.lt hG, fun i => ?_⟩
  rw [lb_set _ _ _ _ (by rw [H.len]; exact hm)]
  by_cases e : m = i
  · subst e; rw [if_pos rfl, if_pos (by omega)]
  · rw [if_neg e, H.at_ i]
    by_cases c : i < m
    · rw [if_pos c, if_pos (by omega)]
    · rw [if_neg c, if_neg (by omega)]

end Go.Proofs.YtbdmncpibnligaaGreatDoor
/- join: the number that has three rests, in three limbs. -/
namespace Go.Proofs.YtbdmncpibnligaaGreatDoor
open Go.RowKit
set_option linter.unusedVariables false
set_option maxHeartbeats 400000

set_option maxHeartbeats 1000000 in
theorem mul64_calls (x y : Nat) (hx : x < 18446744073709551616) (hy : y < 18446744073709551616) (w : World) :
    Calls Tryz.prog 115 #[.int .u64 x, .int .u64 y] w fun e w' => e = .returned (.tuple #[.int .u64 ((x * y / 18446744073709551616 : Nat) : Int), .int .u64 ((x * y % 18446744073709551616 : Nat) : Int)]) ∧ w' = w := by
  obtain ⟨bd, bt, bw, hhi⟩ := Lib.mul64_hi x y hx hy
  have ba := Lib.half_mul_le (a := x / 4294967296) (b := y / 4294967296) (by omega) (by omega)
  have bb := Lib.half_mul_le (a := x / 4294967296) (b := y % 4294967296) (by omega) (by omega)
  have bc := Lib.half_mul_le (a := x % 4294967296) (b := y / 4294967296) (by omega) (by omega)
  have ba' : x / 4294967296 * (y / 4294967296) < 18446744073709551616 := by omega
  have bb' : x / 4294967296 * (y % 4294967296) < 18446744073709551616 := by omega
  have bc' : x % 4294967296 * (y / 4294967296) < 18446744073709551616 := by omega
  have bh1 : x / 4294967296 * (y / 4294967296) + (x / 4294967296 * (y % 4294967296) + x % 4294967296 * (y % 4294967296) / 4294967296) / 4294967296 < 18446744073709551616 := by omega
  have bh : x / 4294967296 * (y / 4294967296) + (x / 4294967296 * (y % 4294967296) + x % 4294967296 * (y % 4294967296) / 4294967296) / 4294967296 + ((x / 4294967296 * (y % 4294967296) + x % 4294967296 * (y % 4294967296) / 4294967296) % 4294967296 + x % 4294967296 * (y / 4294967296)) / 4294967296 < 18446744073709551616 := by omega
  go_enter Tryz.func115, Tryz.ntmps115
  go_wp2
  simp only [Mul64.maskN x hx, Mul64.maskN y hy, Mul64.divN, Mul64.mulN, Mul64.addN, Mul64.wrapN _ bd, Mul64.wrapN _ bb', Mul64.wrapN _ bt, Mul64.maskN _ bt, Mul64.wrapN _ bc', Mul64.wrapN _ bw, Mul64.wrapN _ ba', Mul64.wrapN _ bh1, Mul64.wrapN _ bh, Mul64.wrapM (x * y)]
  rw [hhi]
  go_ret2
  exact ⟨rfl, rfl⟩

theorem three (w : World) (B : Nat) (hB : w.heap.size = B) (f g h : Fd) :
    Bx ((((w.alloc (.cells #[.int .u32 (f.p : Int), .int .u32 (f.root : Int), .int .u32 (f.neg : Int), .int .u32 (f.square : Int), .int .u32 (f.ahead : Int)] 112)).alloc (.cells #[.int .u32 (g.p : Int), .int .u32 (g.root : Int), .int .u32 (g.neg : Int), .int .u32 (g.square : Int), .int .u32 (g.ahead : Int)] 112)).alloc (.cells #[.int .u32 (h.p : Int), .int .u32 (h.root : Int), .int .u32 (h.neg : Int), .int .u32 (h.square : Int), .int .u32 (h.ahead : Int)] 112)).drew) B f ∧ Bx ((((w.alloc (.cells #[.int .u32 (f.p : Int), .int .u32 (f.root : Int), .int .u32 (f.neg : Int), .int .u32 (f.square : Int), .int .u32 (f.ahead : Int)] 112)).alloc (.cells #[.int .u32 (g.p : Int), .int .u32 (g.root : Int), .int .u32 (g.neg : Int), .int .u32 (g.square : Int), .int .u32 (g.ahead : Int)] 112)).alloc (.cells #[.int .u32 (h.p : Int), .int .u32 (h.root : Int), .int .u32 (h.neg : Int), .int .u32 (h.square : Int), .int .u32 (h.ahead : Int)] 112)).drew) (B + 1) g ∧
    Bx ((((w.alloc (.cells #[.int .u32 (f.p : Int), .int .u32 (f.root : Int), .int .u32 (f.neg : Int), .int .u32 (f.square : Int), .int .u32 (f.ahead : Int)] 112)).alloc (.cells #[.int .u32 (g.p : Int), .int .u32 (g.root : Int), .int .u32 (g.neg : Int), .int .u32 (g.square : Int), .int .u32 (g.ahead : Int)] 112)).alloc (.cells #[.int .u32 (h.p : Int), .int .u32 (h.root : Int), .int .u32 (h.neg : Int), .int .u32 (h.square : Int), .int .u32 (h.ahead : Int)] 112)).drew) (B + 1 + 1) h ∧ Ext w ((((w.alloc (.cells #[.int .u32 (f.p : Int), .int .u32 (f.root : Int), .int .u32 (f.neg : Int), .int .u32 (f.square : Int), .int .u32 (f.ahead : Int)] 112)).alloc (.cells #[.int .u32 (g.p : Int), .int .u32 (g.root : Int), .int .u32 (g.neg : Int), .int .u32 (g.square : Int), .int .u32 (g.ahead : Int)] 112)).alloc (.cells #[.int .u32 (h.p : Int), .int .u32 (h.root : Int), .int .u32 (h.neg : Int), .int .u32 (h.square : Int), .int .u32 (h.ahead : Int)] 112)).drew) := by
  subst hB
  have h1 := Bx.new w f
  have h2 := Bx.new (w.alloc (.cells #[.int .u32 (f.p : Int), .int .u32 (f.root : Int), .int .u32 (f.neg : Int), .int .u32 (f.square : Int), .int .u32 (f.ahead : Int)] 112)) g
  have h3 := Bx.new ((w.alloc (.cells #[.int .u32 (f.p : Int), .int .u32 (f.root : Int), .int .u32 (f.neg : Int), .int .u32 (f.square : Int), .int .u32 (f.ahead : Int)] 112)).alloc (.cells #[.int .u32 (g.p : Int), .int .u32 (g.root : Int), .int .u32 (g.neg : Int), .int .u32 (g.square : Int), .int .u32 (g.ahead : Int)] 112)) h
  have s1 : (w.alloc (.cells #[.int .u32 (f.p : Int), .int .u32 (f.root : Int), .int .u32 (f.neg : Int), .int .u32 (f.square : Int), .int .u32 (f.ahead : Int)] 112)).heap.size = w.heap.size + 1 := by simp
  have s2 : ((w.alloc (.cells #[.int .u32 (f.p : Int), .int .u32 (f.root : Int), .int .u32 (f.neg : Int), .int .u32 (f.square : Int), .int .u32 (f.ahead : Int)] 112)).alloc (.cells #[.int .u32 (g.p : Int), .int .u32 (g.root : Int), .int .u32 (g.neg : Int), .int .u32 (g.square : Int), .int .u32 (g.ahead : Int)] 112)).heap.size = w.heap.size + 1 + 1 := by simp
  rw [s1] at h2
  rw [s2] at h3
  exact ⟨(h1.ext (((Ext.refl _).alloc _).alloc _)).ext ((Ext.refl _).drew), (h2.ext ((Ext.refl _).alloc _)).ext ((Ext.refl _).drew), h3.ext ((Ext.refl _).drew), (((((Ext.refl w).alloc _).alloc _).alloc _).drew)⟩

end Go.Proofs.YtbdmncpibnligaaGreatDoor
