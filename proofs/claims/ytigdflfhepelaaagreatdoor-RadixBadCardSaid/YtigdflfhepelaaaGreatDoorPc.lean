/- What the transform does, number by number. -/
import Derived.Test.YtigdflfhepelaaaGreatDoorPb
import Derived.Maps.AppendAt
import Derived.Deep.Cut
import Derived.Deep.CutRange
import Derived.Lib.SlTrimSet
import Derived.Lib.Bytealg

namespace Go.Proofs.YtigdflfhepelaaaGreatDoor
open Go.RowKit
set_option linter.unusedVariables false

/-- The root and the share, either way. -/
def tw (i k : Nat) (b : Bool) : Nat := if b then bt (fd i) k else rt (fd i) k
def ts (i k : Nat) (b : Bool) : Nat := if b then sh (fd i) (2 ^ k) else 1
theorem tfl_eq (i k : Nat) (b : Bool) (l : List Nat) : tfl i k b l = trv (fd i).p (tw i k b) (ts i k b) (2 ^ k) l := by cases b <;> rfl
theorem tfl_eqm (i k : Nat) (b : Bool) (l : List Nat) (j : Nat) (hj : j < 2 ^ k) : Eqm ((fd i).p : Int) (seq (tfl i k b l) j) ((ts i k b : Nat) * dft ((tw i k b : Nat) : Int) (2 ^ k) (seq l) j) := by
  unfold seq
  rw [tfl_eq, lb_trv _ _ _ _ _ _ hj]
  exact dv_eqm _ _ _ _ _ _
theorem tw_rt (i k : Nat) (b : Bool) (hk : k ≤ 20) : Rt ((fd i).p : Int) ((tw i k b : Nat) : Int) k := by
  cases b
  · exact (fd_fld i).rt hk
  · exact (fd_fld i).bt hk
theorem tw_inv (i k : Nat) (b : Bool) : Eqm ((fd i).p : Int) (((tw i k b : Nat) : Int) * ((tw i k (!b) : Nat) : Int)) 1 := by
  cases b
  · exact (fd_fld i).wv k
  · rw [Int.mul_comm]; exact (fd_fld i).wv k
theorem ts_inv (i k : Nat) (b : Bool) : Eqm ((fd i).p : Int) (((ts i k b : Nat) : Int) * ((ts i k (!b) : Nat) : Int) * ((2 ^ k : Nat) : Int)) 1 := by
  have := (fd_fld i).share k
  cases b
  · show Eqm _ (((1 : Nat) : Int) * ((sh (fd i) (2 ^ k) : Nat) : Int) * ((2 ^ k : Nat) : Int)) 1
    rw [Int.natCast_one, Int.one_mul, Int.mul_comm]; exact this
  · show Eqm _ (((sh (fd i) (2 ^ k) : Nat) : Int) * ((1 : Nat) : Int) * ((2 ^ k : Nat) : Int)) 1
    rw [Int.natCast_one, Int.mul_one, Int.mul_comm]; exact this
theorem seq_cast (l : List Nat) (j : Nat) : seq l j = ((lb l j : Nat) : Int) := rfl
/-- There and back. -/
theorem tfl_back (i k : Nat) (b : Bool) (l : List Nat) (hk : k ≤ 20) (hl : l.length = 2 ^ k) (hlt : ∀ x ∈ l, x < (fd i).p) : tfl i k (!b) (tfl i k b l) = l := by
  have p0 := (fd_fld i).good.p0
  refine ext_lb (by rw [tfl_len, hl]) fun t ht => ?_
  rw [tfl_len] at ht
  have h1 := tfl_eqm i k (!b) (tfl i k b l) t ht
  have h2 : Eqm ((fd i).p : Int) (dft ((tw i k (!b) : Nat) : Int) (2 ^ k) (seq (tfl i k b l)) t) ((ts i k b : Nat) * ((2 ^ k : Nat) * seq l t)) := by
    refine (dft_eqm fun j hj => tfl_eqm i k b l j hj).trans ?_
    rw [dft_mul]
    refine (Eqm.refl _ _).mul (dft_back (tw_rt i k b hk) (tw_rt i k (!b) hk) (tw_inv i k b) _ t ht)
  have h3 : Eqm ((fd i).p : Int) (seq (tfl i k (!b) (tfl i k b l)) t) (seq l t) := by
    refine h1.trans (((Eqm.refl _ _).mul h2).trans ?_)
    have h4 := (ts_inv i k b).mul (Eqm.refl ((fd i).p : Int) (seq l t))
    rw [Int.one_mul] at h4
    refine Eqm.trans (Eqm.of_eq ?_) h4
    grind
  exact h3.eq (lb_lt_of (by omega) (tfl_lt _ _ _ _) _) (lb_lt_of (by omega) hlt _)
/-- Each number times one, and others added. -/
theorem tfl_lines (i k : Nat) (b : Bool) (l m o : List Nat) (by_ : Nat) (ho : ∀ j, j < 2 ^ k → lb o j = (lb l j * by_ + lb m j) % (fd i).p) (j : Nat) (hj : j < 2 ^ k) :
    lb (tfl i k b o) j = (lb (tfl i k b l) j % (fd i).p * (by_ % (fd i).p) + lb (tfl i k b m) j) % (fd i).p := by
  have p0 := (fd_fld i).good.p0
  have h1 : Eqm ((fd i).p : Int) (seq (tfl i k b o) j) (seq (tfl i k b l) j * (by_ : Int) + seq (tfl i k b m) j) := by
    refine (tfl_eqm i k b o j hj).trans ?_
    have h2 : Eqm ((fd i).p : Int) (dft ((tw i k b : Nat) : Int) (2 ^ k) (seq o) j) ((by_ : Int) * dft ((tw i k b : Nat) : Int) (2 ^ k) (seq l) j + dft ((tw i k b : Nat) : Int) (2 ^ k) (seq m) j) := by
      rw [← dft_mul, ← dft_add]
      refine dft_eqm fun q hq => ?_
      rw [seq_cast, ho q hq]
      refine (Eqm.nat_mod _ _).trans (Eqm.of_eq ?_)
      rw [Int.natCast_add, Int.natCast_mul, seq_cast, seq_cast, Int.mul_comm]
    refine ((Eqm.refl _ _).mul h2).trans ?_
    have h3 := ((tfl_eqm i k b l j hj).mul (Eqm.refl _ (by_ : Int))).add (tfl_eqm i k b m j hj)
    refine Eqm.trans (Eqm.of_eq ?_) h3.symm
    grind
  refine h1.trans ?_ |>.eq (lb_lt_of (by omega) (tfl_lt _ _ _ _) _) (Nat.mod_lt _ (by omega))
  refine Eqm.symm ((Eqm.nat_mod _ _).trans ?_)
  rw [Int.natCast_add, Int.natCast_mul]
  exact ((Eqm.nat_mod _ _).mul (Eqm.nat_mod _ _)).add (Eqm.refl _ _)
/-- Turned by one place. -/
theorem tfl_turn (i k : Nat) (l m : List Nat) (hk : k ≤ 20) (h0 : lb m 0 = lb l (2 ^ k - 1)) (h1 : ∀ j, j + 1 < 2 ^ k → lb m (j + 1) = lb l j) (r : Nat) (hr : rt (fd i) k % (fd i).p = r) (j : Nat) (hj : j < 2 ^ k) :
    lb (tfl i k false m) j = lb (tfl i k false l) j * (r ^ j % (fd i).p) % (fd i).p := by
  have p0 := (fd_fld i).good.p0
  have hn := Nat.two_pow_pos k
  obtain ⟨n, hn2⟩ : ∃ n, 2 ^ k = n + 1 := ⟨2 ^ k - 1, by omega⟩
  have hw := (tw_rt i k false hk).1
  have e1 := tfl_eqm i k false m j hj
  have e2 := tfl_eqm i k false l j hj
  have ht := dft_turn (p := ((fd i).p : Int)) (w := ((tw i k false : Nat) : Int)) (n := n) (by rw [← hn2]; exact hw) (seq l) (seq m) (by rw [seq_cast, seq_cast, h0, show 2 ^ k - 1 = n by omega]) (fun q hq => by rw [seq_cast, seq_cast, h1 q (by omega)]) j
  rw [← hn2] at ht
  have hr1 : Eqm ((fd i).p : Int) ((r : Nat) : Int) ((tw i k false : Nat) : Int) := by rw [← hr]; exact Eqm.nat_mod _ _
  have h2 : Eqm ((fd i).p : Int) (seq (tfl i k false m) j) (seq (tfl i k false l) j * (r : Int) ^ j) := by
    refine e1.trans (((Eqm.refl _ _).mul ht).trans ?_)
    rw [← Int.mul_assoc]
    exact (e2.mul (hr1.pow j)).symm
  refine h2.trans ?_ |>.eq (lb_lt_of (by omega) (tfl_lt _ _ _ _) _) (Nat.mod_lt _ (by omega))
  refine Eqm.symm ((Eqm.nat_mod _ _).trans ?_)
  rw [Int.natCast_mul]
  refine (Eqm.refl _ _).mul ((Eqm.nat_mod _ _).trans ?_)
  rw [Int.natCast_pow]; exact Eqm.refl _ _
/-- The sum of products all around. -/
def arv (p n : Nat) (l m : List Nat) (k : Nat) : Nat := nsum n (fun t => lb l t * lb m ((k + n - t) % n)) % p
theorem tfl_around (i k : Nat) (l m o : List Nat) (hk : k ≤ 20) (ho : ∀ j, j < 2 ^ k → lb o j = lb (tfl i k false l) j * lb (tfl i k false m) j % (fd i).p) (j : Nat) (hj : j < 2 ^ k) :
    lb (tfl i k true o) j = arv (fd i).p (2 ^ k) l m j := by
  have p0 := (fd_fld i).good.p0
  let c : List Nat := (List.range (2 ^ k)).map (arv (fd i).p (2 ^ k) l m)
  have hc : ∀ q, q < 2 ^ k → lb c q = arv (fd i).p (2 ^ k) l m q := fun q hq => lb_map _ _ _ hq
  have hcl : c.length = 2 ^ k := by simp [c]
  have hclt : ∀ x ∈ c, x < (fd i).p := by
    intro x hx
    obtain ⟨q, _, rfl⟩ := List.mem_map.1 hx
    exact Nat.mod_lt _ (by omega)
  have hcs : ∀ q, q < 2 ^ k → Eqm ((fd i).p : Int) (seq c q) (sm (2 ^ k) fun t => seq l t * seq m ((q + 2 ^ k - t) % 2 ^ k)) := fun q hq => by
    rw [seq_cast, hc q hq]
    unfold arv
    refine (Eqm.nat_mod _ _).trans (Eqm.of_eq ?_)
    rw [nsum_cast]
    exact sm_congr fun t _ => by rw [Int.natCast_mul]; rfl
  have e : tfl i k false c = (List.range (2 ^ k)).map (fun q => lb o q % (fd i).p) := by
    refine ext_lb (by rw [tfl_len]; simp) fun q hq => ?_
    rw [tfl_len] at hq
    rw [lb_map _ _ _ hq]
    have h1 : Eqm ((fd i).p : Int) (seq (tfl i k false c) q) ((lb o q : Nat) : Int) := by
      rw [ho q hq]
      refine Eqm.trans ?_ (Eqm.nat_mod _ _).symm
      rw [Int.natCast_mul]
      have h2 := tfl_eqm i k false c q hq
      have h3 := tfl_eqm i k false l q hq
      have h4 := tfl_eqm i k false m q hq
      simp only [show ts i k false = 1 from rfl, Int.natCast_one, Int.one_mul] at h2 h3 h4
      refine h2.trans (Eqm.trans ?_ (h3.mul h4).symm)
      exact (dft_eqm hcs).trans (dft_around (tw_rt i k false hk).1 _ _ _).symm
    exact (h1.trans (Eqm.nat_mod _ _).symm).eq (lb_lt_of (by omega) (tfl_lt _ _ _ _) _) (Nat.mod_lt _ (by omega))
  have e2 : tfl i k true o = tfl i k true (tfl i k false c) := by
    rw [tfl_eq, tfl_eq]
    unfold trv
    refine List.map_congr_left fun q hq => ?_
    unfold dv
    refine congrArg (· % _) (congrArg (_ * ·) (nsum_congr fun t ht => ?_))
    rw [e, lb_map _ _ _ ht, ho t ht, Nat.mod_mod]
  have hb := tfl_back i k false c hk hcl hclt
  rw [show (!false) = true from rfl] at hb
  rw [e2, hb, hc j hj]
end Go.Proofs.YtigdflfhepelaaaGreatDoor
/- A question in its box; slices opened. -/
namespace Go.Proofs.YtigdflfhepelaaaGreatDoor
open Go.RowKit
set_option linter.unusedVariables false
set_option maxHeartbeats 400000

def Ax (w : World) (B : Nat) (I K : Int) (sl : Value) (bk : Bool) : Prop := B < w.heap.size ∧ w.cell? ⟨B, 0, none⟩ = some (.int .i64 I) ∧ w.cell? ⟨B, 1, none⟩ = some (.int .i64 K) ∧ w.cell? ⟨B, 2, none⟩ = some sl ∧ w.cell? ⟨B, 3, none⟩ = some (.bool bk)
theorem Ax.ext {w w' : World} {B : Nat} {I K : Int} {sl : Value} {bk : Bool} (h : Ax w B I K sl bk) (hB : Ext w w') : Ax w' B I K sl bk := by
  obtain ⟨h0, h1, h2, h3, h4⟩ := h
  have hs := hB.size
  have hc := fun o => hB.cell (p := ⟨B, o, none⟩) h0
  exact ⟨by omega, by rw [hc]; exact h1, by rw [hc]; exact h2, by rw [hc]; exact h3, by rw [hc]; exact h4⟩
theorem U.opened {w : World} {v : Value} {xs : List Nat} (h : U w v xs) {n : Nat} (hn : xs.length = n) (h0 : 0 < n) : ∃ ad c, v = .slice (some ad) n c ∧ n ≤ c ∧ ad.block < w.heap.size ∧ ∀ j, j < n → w.cell? (ad.add j) = some (.int .u32 (lb xs j : Nat)) := by
  obtain ⟨A, c, rfl, ⟨hc, _⟩, _, hr⟩ := h
  subst hn
  obtain ⟨ad, rfl, hb, hcell⟩ := hr h0
  exact ⟨ad, c, rfl, hc, hb, hcell⟩
end Go.Proofs.YtigdflfhepelaaaGreatDoor
/- A row that grows while others lie by. -/
namespace Go.Proofs.YtigdflfhepelaaaGreatDoor
open Go.RowKit
set_option linter.unusedVariables false
set_option maxHeartbeats 400000

/-- A row in block B or in one that is new. -/
structure Apart (B : Nat) (w0 w : World) (v : Value) (o : List Nat) : Prop where
  own : Own w B v o
  but : But B w0 w
  at_ : ∀ g, v.ownBlock = some g → g = B ∨ w0.heap.size ≤ g
theorem Apart.drew {B : Nat} {w0 w : World} {v : Value} {o : List Nat} (h : Apart B w0 w v o) : Apart B w0 w.drew v o := ⟨h.own.drew, h.but.drew, h.at_⟩
theorem Apart.cell {B : Nat} {w0 w : World} {v : Value} {o : List Nat} (h : Apart B w0 w v o) {p : Addr} (hp : p.block < w0.heap.size) (hne : p.block ≠ B) : w.cell? p = w0.cell? p := h.but.cell hp hne
theorem push_apart {w0 w : World} {B : Nat} (hB0 : B ≤ w0.heap.size) {v : Value} {o : List Nat} (h : Apart B w0 w v o) (z : Int) (x : Nat) (hz : z = (x : Int)) (hx : x < 4294967296) (hlen : o.length + 1 ≤ 35184372088832) :
    ∃ v' w', (Builtin.append_ #[22, 22] 22 #[v, .slice (some ⟨w.heap.size, 0, none⟩) 1 1]).run Tryz.prog (w.alloc (.cells #[.int .u32 z] 46)) = .ok v' w' ∧ Apart B w0 w' v' (o ++ [x]) := by
  subst hz
  obtain ⟨i0, hi, hz0, hz1, hz2⟩ := info_parts info32
  have hs := h.but.size
  have hu : U (w.alloc (.cells #[.int .u32 (x : Int)] 46)) (.slice (some ⟨w.heap.size, 0, none⟩) 1 1) [x] := U_lit w [x] (by simpa using hx) (by simp)
  obtain ⟨ad, c, e1, _, _, hcell⟩ := hu.opened (n := 1) rfl (by decide)
  injection e1 with e1 _ _
  injection e1 with e1
  obtain ⟨v', w', hrun, hown', hg, _, hat⟩ := run_append_own_at (P := Tryz.prog) (w.alloc (.cells #[.int .u32 (x : Int)] 46)) B 22 22 46 i0 (.int .u32 0) 1 4 Tryz.underlying22 hi hz0 hz1 hz2 rfl (by decide) v o.length (L32 o) (World.ownsRow.alloc h.own _) ⟨w.heap.size, 0, none⟩ 1 1 (L32 [x]) rfl
    (fun j u hj => by
      have hj1 : j < 1 := by
        rcases Nat.lt_or_ge j 1 with h | h
        · exact h
        · rw [List.getElem?_eq_none (by rw [L32_length]; exact h)] at hj; cases hj
      rw [e1, hcell j hj1, ← L32_get [x] hj1, hj])
    (by intro u hu; obtain ⟨z, _, rfl⟩ := List.mem_map.1 hu; rfl) (by unfold maxLen; omega) (by omega) (by simp; omega)
  refine ⟨v', w', hrun, ⟨by unfold Own; rw [L32_append, List.length_append]; exact hown', ?_, ?_⟩⟩
  · have h1 : But B w0 (w.alloc (.cells #[.int .u32 (x : Int)] 46)) := h.but.ext ((Ext.refl w).alloc _)
    refine ⟨hg.os.trans h1.os, hg.tape.trans h1.tape, hg.output.trans h1.output, Nat.le_trans h1.size hg.size, fun i hi hne => (hg.block i (Nat.lt_of_lt_of_le hi h1.size) (fun e => ?_)).trans (h1.block i hi hne)⟩
    rcases h.at_ i e.symm with e | e
    · exact hne (by rw [e])
    · omega
  · intro g hgv
    rcases hat with e | e
    · exact h.at_ g (e ▸ hgv)
    · rw [hgv] at e
      injection e with e
      right; rw [e]; simp; omega
theorem bare_cell (w : World) (p : Addr) (t : TypeId) (h : w.heap[p.block]? = some (.cells #[] t)) : w.cell? p = none := by
  unfold World.cell?; simp [h]
end Go.Proofs.YtigdflfhepelaaaGreatDoor
/- A row laid in, modulo a prime, and down. -/
namespace Go.Proofs.YtigdflfhepelaaaGreatDoor
open Go.RowKit
set_option linter.unusedVariables false
set_option maxHeartbeats 400000

/-- The numbers, times 2^32, and noughts behind them. -/
def ml (f : Fd) (n : Nat) (l : List Nat) : List Nat := (List.range n).map fun j => mont f (lb l j)
theorem ml_len (f : Fd) (n : Nat) (l : List Nat) : (ml f n l).length = n := by simp [ml]
theorem ml_at (f : Fd) (n : Nat) (l : List Nat) (j : Nat) (h : j < n) : lb (ml f n l) j = mont f (lb l j) := lb_map _ _ _ h
theorem ml_lt (f : Fd) (hf : Good f) (n : Nat) (l : List Nat) : ∀ x ∈ ml f n l, x < f.p := by
  intro x hx
  obtain ⟨q, _, rfl⟩ := List.mem_map.1 hx
  exact mont_lt f hf _
structure MlI (f : Fd) (n : Nat) (l : List Nat) (j : Nat) (o : List Nat) : Prop where
  len : o.length = n
  lt : ∀ x ∈ o, x < f.p
  at_ : ∀ q, lb o q = if q < j then mont f (lb l q) else 0
theorem MlI.start (f : Fd) (hf : Good f) (n : Nat) (l : List Nat) : MlI f n l 0 (List.replicate n 0) :=
  ⟨by simp, fun x hx => by have := hf.p0; rw [List.eq_of_mem_replicate hx]; omega, fun q => by rw [lb_zeros, if_neg (by omega)]⟩
theorem MlI.step {f : Fd} (hf : Good f) {n : Nat} {l : List Nat} {j : Nat} {o : List Nat} (H : MlI f n l j o) (hj : j < n) : MlI f n l (j + 1) (o.set j (mont f (lb l j))) := by
  refine ⟨by simp [H.len], set_lt H.lt (mont_lt f hf _), fun q => ?_⟩
  rw [lb_set _ _ _ _ (by rw [H.len]; exact hj)]
  by_cases e : j = q
  · subst e; rw [if_pos rfl, if_pos (by omega)]
  · rw [if_neg e, H.at_ q]
    by_cases c : q < j
    · rw [if_pos c, if_pos (by omega)]
    · rw [if_neg c, if_neg (by omega)]
theorem lb_past (l : List Nat) (j : Nat) (h : l.length ≤ j) : lb l j = 0 := by unfold lb; rw [List.getElem?_eq_none h]; rfl
theorem mont_zero (f : Fd) : mont f 0 = 0 := by unfold mont; rw [Nat.zero_mul, Nat.zero_mod]
theorem MlI.done {f : Fd} {n : Nat} {l : List Nat} {o : List Nat} (H : MlI f n l l.length o) : o = ml f n l := by
  refine ext_lb (by rw [H.len, ml_len]) fun q hq => ?_
  rw [ml_at f n l q (by rw [← H.len]; exact hq), H.at_ q]
  by_cases c : q < l.length
  · rw [if_pos c]
  · rw [if_neg c, lb_past l q (by omega), mont_zero]

set_option maxRecDepth 100000 in
set_option maxHeartbeats 4000000 in
theorem load_calls (w : World) (f : Fd) (hf : Good f) (k n W Bn Bf Bq q : Nat) (pw : List Nat) (hn : 2 ^ k = n) (hk : k ≤ 20) (hr : Rt f.p W k) (hp : Pw f k W pw) (hq : Rd w q pw)
    (h1 : Bn < w.heap.size ∧ w.cell? ⟨Bn, 0, none⟩ = some (.int .i64 (n : Nat))) (h2 : Bx w Bf f) (h3 : Bq < w.heap.size ∧ w.cell? ⟨Bq, 0, none⟩ = some (.slice (some ⟨q, 0, none⟩) pw.length pw.length))
    (v : Value) (l : List Nat) (hu : U w v l) (hl : l.length ≤ n) :
    Calls Tryz.prog 131 #[v, .pointer (some ⟨Bn, 0, none⟩), .pointer (some ⟨Bf, 0, none⟩), .pointer (some ⟨Bq, 0, none⟩)] w fun e w' => (∃ g o, e = .returned (.slice (some ⟨g, 0, none⟩) n n) ∧ DownL f k W (ml f n l) 0 o ∧ Own w' w.heap.size (.slice (some ⟨g, 0, none⟩) n n) o) ∧ Ext w w' := by
  have p0 := hf.p0
  have p1 := hf.p1
  have hn1 : n ≤ 1048576 := by rw [← hn]; exact Nat.pow_le_pow_right (by decide) hk
  have hn0 : 0 < n := by rw [← hn]; exact Nat.two_pow_pos k
  obtain ⟨A, c, rfl, ⟨hc1, hc2⟩, hx, hrd⟩ := id hu
  have HN := Lib.hid hn
  obtain ⟨i0, hi, hz0, hz1, hz2⟩ := info_parts info32
  obtain ⟨hn3, hn4⟩ := h1
  obtain ⟨hq3, hq4⟩ := h3
  clear hn
  obtain ⟨L, hLL⟩ : ∃ L, l.length = L := ⟨_, rfl⟩
  have HL := Lib.hid hLL
  rw [hLL] at hl hc1 hc2 hu hrd ⊢
  clear hLL
  go_enter Tryz.func131, Tryz.ntmps131
  go_wp2_with (at_make; refine wpList_make_full _ rfl _ _ 22 rfl w.heap.size 46 i0 (.int .u32 0) 1 Tryz.underlying22 hi hz0 hz1 _ _ _ _ n rfl rfl (by omega) (by omega) (by rw [hz2]; omega) (by unfold maxLen; omega) (by simp) ?_; intro w1 hown hgrow)
  have ho0 := Own.zeros hown
  have hB0 : Ext w w1 := (Ext.refl w).grown hgrow (by simp) (fun _ h => by cases h)
  clear hown hgrow
  rw [List.length_replicate] at ho0
  clear hi hz0 hz1 hz2 i0 hu
  go_loopw [13] (fun t wr => ∃ (j : Nat) (o : List Nat), j ≤ L ∧ t = .int .i64 (j : Nat) ∧ Hid (MlI f n l j o) ∧ Own wr w.heap.size (.slice (some ⟨w.heap.size, 0, none⟩) n n) o ∧ Ext w wr) (fun t _ => L - (intOf t).toNat)
  case atStart => exact ⟨0, _, Nat.zero_le _, rfl, MlI.start f hf n l, ho0, hB0⟩
  case round =>
    clear ho0 hB0
    obtain ⟨j, o, hj, rfl, HO, hown, hE⟩ := hrel
    by_cases hlt : j < L
    · obtain ⟨ad, rfl, hb, hcell⟩ := hrd (by omega)
      have hc1 := (hE.cell (p := ad.add j) (by rw [addr_add_block]; exact hb)).trans (hcell j hlt)
      have HST := Lib.hid (HO.out.step hf (j := j) (by omega))
      have hx1 := lb_lt hx j
      obtain ⟨b0, b1, b2, b3, b4, b5⟩ := h2.ext hE
      generalize lb l j = x at *
      have hj0 : (0 : Int) ≤ (j : Int) := by omega
      have hj1 : (j : Int) < (L : Int) := by omega
      have hj2 : (j : Int) < (n : Int) := by omega
      have hoL := HO.out.len
      clear hrd hcell hn4 hq4 HO
      go_wp2_with (fail)
      refine (in_calls _ f hf x hx1).mono ?_
      rintro e w3 ⟨rfl, hB3⟩
      have hm := mont_lt f hf x
      replace hown := hown.ext hB3
      replace hE := hE.below hB3
      have hs := hown.set' j (mont f x)
      have hfr := Own.frozen (c := n) (by rw [hoL]; exact hown) j
      have hcl := Own.cell (c := n) (j := j) (by rw [hoL]; exact hown) (by omega)
      have hE2 : Ext w (w3.setCell ⟨w.heap.size, j, none⟩ (.int .u32 (mont f x : Nat))) := hE.setCell (by simp) _
      generalize mont f x = Y at *
      clear b0 b1 b2 b3 b4 b5 hown hE hc1 hB3
      go_wp2_with (fail)
      go_roundw
      case rel => exact ⟨j + 1, _, by omega, by go_num, HST, hs, hE2⟩
      case measure => simp [intOf]; omega
    · obtain rfl : j = L := by omega
      have HD := HO.out
      rw [← HL.out] at HD
      have hd := HD.done
      subst hd
      obtain ⟨b0, b1, b2, b3, b4, b5⟩ := h2.ext hE
      have hq5 := (hE.cell hq3).trans hq4
      have hq6 : Rd wr q pw := ((But.refl w.heap.size w).ext hE).rd hq (by have := hq.1; omega)
      have hqg : q ≠ w.heap.size := by have := hq.1; omega
      clear hrd hn4 hq4 HO hlt
      go_wp2_with (fail)
      refine (down_n _ f hf k W n (ml f n l) pw w.heap.size q n w.heap.size HN.out hk hr hp (by rw [ml_len, HN.out]) (ml_lt f hf n l) hown hq6 hqg).mono ?_
      rintro e w5 ⟨rfl, ⟨o5, hd5, ho5⟩, hB5⟩
      have hE6 := hE.trans (hB5.below (B := w.heap.size) (Nat.le_refl _) (Nat.le_trans hE.size (Nat.le_refl _)))
      have HD5 := Lib.hid hd5
      clear hd5 b0 b1 b2 b3 b4 b5 hB5 hE hq5 hq6
      go_wp2
      go_ret
      exact ⟨⟨_, o5, rfl, HD5.out, ho5⟩, hE6⟩
end Go.Proofs.YtigdflfhepelaaaGreatDoor
/- Sums of products by transforms: what the rests are. -/
namespace Go.Proofs.YtigdflfhepelaaaGreatDoor
open Go.RowKit
set_option linter.unusedVariables false
set_option maxHeartbeats 400000

theorem cv_sm (a b : List Nat) (i m : Nat) : ((cv a b i m : Nat) : Int) = sm i fun t => if t ≤ m then seq a t * seq b (m - t) else 0 := by
  induction i with
  | zero => rfl
  | succ i ih =>
    rw [cv, sm_succ, ← ih, Int.natCast_add]
    congr 1
    split
    · rw [Int.natCast_mul]; rfl
    · rfl
/-- All around, with room enough, is as it goes. -/
theorem around_cv (a b : List Nat) (n j : Nat) (hj : j < n) (ha : a.length ≤ n) (hab : a.length + b.length ≤ n + 1) :
    sm n (fun t => seq a t * seq b ((j + n - t) % n)) = ((cv a b a.length j : Nat) : Int) := by
  obtain ⟨r, hr⟩ : ∃ r, n = a.length + r := ⟨n - a.length, by omega⟩
  have e1 : sm n (fun t => seq a t * seq b ((j + n - t) % n)) = sm (a.length + r) (fun t => seq a t * seq b ((j + n - t) % n)) := by rw [← hr]
  rw [e1, sm_split, cv_sm]
  have e2 : sm r (fun i => seq a (a.length + i) * seq b ((j + n - (a.length + i)) % n)) = 0 := by
    rw [← sm_nought r]
    refine sm_congr fun i _ => ?_
    rw [show seq a (a.length + i) = 0 from by unfold seq; rw [lb_past a _ (by omega)]; rfl, Int.zero_mul]
  rw [e2, Int.add_zero]
  refine sm_congr fun t ht => ?_
  by_cases c : t ≤ j
  · rw [if_pos c, show j + n - t = (j - t) + n by omega, Nat.add_mod_right, Nat.mod_eq_of_lt (by omega)]
  · rw [if_neg c, Nat.mod_eq_of_lt (by omega)]
    rw [show seq b (j + n - t) = 0 from by unfold seq; rw [lb_past b _ (by omega)]; rfl, Int.mul_zero]
theorem mm_eqm (f : Fd) (x y : Nat) : Eqm (f.p : Int) ((mm f x y : Nat) : Int) ((x : Int) * (y : Int) * (f.ri : Int)) := by
  unfold mm
  refine (Eqm.nat_mod _ _).trans (Eqm.of_eq ?_)
  rw [Int.natCast_mul, Int.natCast_mul]
theorem ri_eqm (f : Fd) (hf : Good f) : Eqm (f.p : Int) ((f.ri : Int) * 4294967296) 1 := by
  have h := hf.ri
  have := eqm_of_mod (p := f.p) (a := f.ri * 4294967296) (b := 1) (by rw [h, Nat.mod_eq_of_lt hf.p0])
  rwa [Int.natCast_mul] at this
theorem rest_math {f : Fd} (F : Fld f) {k n : Nat} (hk : k ≤ 20) (hn : 2 ^ k = n) (a b : List Nat) (ha : a.length ≤ n) (hab : a.length + b.length ≤ n + 1) {x y z u r : List Nat}
    (hx : DownL f k (rt f k) (ml f n a) 0 x) (hy : DownL f k (rt f k) (ml f n b) 0 y) (hz : ∀ q, q < n → lb z q = mm f (lb x q) (lb y q)) (hu : UpL f k (bt f k) z k u)
    (hr : ∀ q, q < n → lb r q = mm f (lb u q) (sh f n % f.p)) (j : Nat) (hj : j < n) : Eqm (f.p : Int) ((lb r j : Nat) : Int) ((cv a b a.length j : Nat) : Int) := by
  have hG := F.good
  subst hn
  have hri := ri_eqm f hG
  have hw := F.rt hk
  have hv := F.bt hk
  have one : ∀ (l o : List Nat), DownL f k (rt f k) (ml f (2 ^ k) l) 0 o → ∀ q, q < 2 ^ k → Eqm (f.p : Int) (seq o q) (4294967296 * dft ((rt f k : Nat) : Int) (2 ^ k) (seq l) (rev k q)) := by
    intro l o h q hq
    refine (h.down.done q hq).trans ?_
    rw [← dft_mul]
    refine dft_eqm fun i hi => ?_
    unfold seq
    rw [ml_at f _ l i hi]
    unfold mont
    refine (Eqm.nat_mod _ _).trans (Eqm.of_eq ?_)
    rw [Int.natCast_mul, Int.mul_comm]; rfl
  have hzq : ∀ q, q < 2 ^ k → Eqm (f.p : Int) (seq z q) (4294967296 * dft ((rt f k : Nat) : Int) (2 ^ k) (fun q => sm (2 ^ k) fun t => seq a t * seq b ((q + 2 ^ k - t) % 2 ^ k)) (rev k q)) := by
    intro q hq
    have h0 : seq z q = ((mm f (lb x q) (lb y q) : Nat) : Int) := by unfold seq; rw [hz q hq]
    rw [h0]
    have h1 := (one a x hx q hq).mul (one b y hy q hq)
    have h2 := dft_around hw.1 (seq a) (seq b) (rev k q)
    refine (mm_eqm f _ _).trans ((h1.mul (Eqm.refl _ (f.ri : Int))).trans ?_)
    generalize dft ((rt f k : Nat) : Int) (2 ^ k) (seq a) (rev k q) = A at *
    generalize dft ((rt f k : Nat) : Int) (2 ^ k) (seq b) (rev k q) = B at *
    refine Eqm.trans ?_ ((Eqm.refl _ (4294967296 : Int)).mul h2)
    have h3 := hri.mul (Eqm.refl (f.p : Int) (4294967296 * (A * B)))
    rw [Int.one_mul] at h3
    refine Eqm.trans (Eqm.of_eq ?_) h3
    grind
  have huq : Eqm (f.p : Int) (seq u j) (4294967296 * (((2 ^ k : Nat) : Int) * sm (2 ^ k) fun t => seq a t * seq b ((j + 2 ^ k - t) % 2 ^ k))) := by
    refine (hu.up.done j hj).trans ?_
    refine (Eqm.sm fun t ht => (hzq t ht).mul (Eqm.refl _ _)).trans ?_
    rw [sm_rev k (fun t => 4294967296 * dft ((rt f k : Nat) : Int) (2 ^ k) (fun q => sm (2 ^ k) fun t => seq a t * seq b ((q + 2 ^ k - t) % 2 ^ k)) t * ((bt f k : Nat) : Int) ^ (j * t))]
    have e : (sm (2 ^ k) fun t => 4294967296 * dft ((rt f k : Nat) : Int) (2 ^ k) (fun q => sm (2 ^ k) fun t => seq a t * seq b ((q + 2 ^ k - t) % 2 ^ k)) t * ((bt f k : Nat) : Int) ^ (j * t)) = dft ((bt f k : Nat) : Int) (2 ^ k) (fun t => 4294967296 * dft ((rt f k : Nat) : Int) (2 ^ k) (fun q => sm (2 ^ k) fun t => seq a t * seq b ((q + 2 ^ k - t) % 2 ^ k)) t) j := by
      unfold dft
      exact sm_congr fun t _ => by rw [Nat.mul_comm j t]
    rw [e, dft_mul]
    exact (Eqm.refl _ _).mul (dft_back hw hv (F.wv k) _ j hj)
  rw [hr j hj, ← around_cv a b (2 ^ k) j hj ha hab]
  refine (mm_eqm f _ _).trans ?_
  have h1 := huq.mul (Eqm.nat_mod f.p (sh f (2 ^ k)))
  refine (h1.mul (Eqm.refl _ (f.ri : Int))).trans ?_
  generalize (sm (2 ^ k) fun t => seq a t * seq b ((j + 2 ^ k - t) % 2 ^ k)) = C at *
  have h3 := (hri.mul (F.share k)).mul (Eqm.refl (f.p : Int) C)
  rw [Int.one_mul, Int.one_mul] at h3
  refine Eqm.trans (Eqm.of_eq ?_) h3
  grind
end Go.Proofs.YtigdflfhepelaaaGreatDoor
/- Sums of products modulo a prime, by transforms. -/
namespace Go.Proofs.YtigdflfhepelaaaGreatDoor
open Go.RowKit
set_option linter.unusedVariables false
set_option maxHeartbeats 400000

theorem keepN {x y : World} {B Bn : Nat} {v : Value} {f : Fd} (h : (B < x.heap.size ∧ x.cell? ⟨B, 0, none⟩ = some (.int .u32 (f.p : Int)) ∧ x.cell? ⟨B, 1, none⟩ = some (.int .u32 (f.root : Int)) ∧ x.cell? ⟨B, 2, none⟩ = some (.int .u32 (f.neg : Int)) ∧ x.cell? ⟨B, 3, none⟩ = some (.int .u32 (f.square : Int)) ∧ x.cell? ⟨B, 4, none⟩ = some (.int .u32 (f.ahead : Int))) ∧ x.cell? ⟨Bn, 0, none⟩ = some v) (hB : Ext x y) :
    (B < y.heap.size ∧ y.cell? ⟨B, 0, none⟩ = some (.int .u32 (f.p : Int)) ∧ y.cell? ⟨B, 1, none⟩ = some (.int .u32 (f.root : Int)) ∧ y.cell? ⟨B, 2, none⟩ = some (.int .u32 (f.neg : Int)) ∧ y.cell? ⟨B, 3, none⟩ = some (.int .u32 (f.square : Int)) ∧ y.cell? ⟨B, 4, none⟩ = some (.int .u32 (f.ahead : Int))) ∧ y.cell? ⟨Bn, 0, none⟩ = some v :=
  ⟨Bx.ext (f := f) h.1 hB, (hB.cell (p := ⟨Bn, 0, none⟩) (World.block_lt_of_cell? x _ h.2)).trans h.2⟩

theorem keepNS {x : World} {B Bn Bq : Nat} {v u : Value} {f : Fd} (h : (B < x.heap.size ∧ x.cell? ⟨B, 0, none⟩ = some (.int .u32 (f.p : Int)) ∧ x.cell? ⟨B, 1, none⟩ = some (.int .u32 (f.root : Int)) ∧ x.cell? ⟨B, 2, none⟩ = some (.int .u32 (f.neg : Int)) ∧ x.cell? ⟨B, 3, none⟩ = some (.int .u32 (f.square : Int)) ∧ x.cell? ⟨B, 4, none⟩ = some (.int .u32 (f.ahead : Int))) ∧ x.cell? ⟨Bn, 0, none⟩ = some v) (h1 : B ≠ Bq) (h2 : Bn ≠ Bq) :
    (B < (x.setCell ⟨Bq, 0, none⟩ u).heap.size ∧ (x.setCell ⟨Bq, 0, none⟩ u).cell? ⟨B, 0, none⟩ = some (.int .u32 (f.p : Int)) ∧ (x.setCell ⟨Bq, 0, none⟩ u).cell? ⟨B, 1, none⟩ = some (.int .u32 (f.root : Int)) ∧ (x.setCell ⟨Bq, 0, none⟩ u).cell? ⟨B, 2, none⟩ = some (.int .u32 (f.neg : Int)) ∧ (x.setCell ⟨Bq, 0, none⟩ u).cell? ⟨B, 3, none⟩ = some (.int .u32 (f.square : Int)) ∧ (x.setCell ⟨Bq, 0, none⟩ u).cell? ⟨B, 4, none⟩ = some (.int .u32 (f.ahead : Int))) ∧ (x.setCell ⟨Bq, 0, none⟩ u).cell? ⟨Bn, 0, none⟩ = some v :=
  ⟨((But.refl Bq x).setCell 0 u).bx (f := f) h.1 h1, (((But.refl Bq x).setCell 0 u).cell (p := ⟨Bn, 0, none⟩) (World.block_lt_of_cell? x _ h.2) h2).trans h.2⟩
/-- A cell made ahead of a call. -/
theorem made_cell {x y : World} {v : Value} {t : TypeId} (hB : Ext (x.alloc (.cells #[v] t)) y) : y.cell? ⟨x.heap.size, 0, none⟩ = some v :=
  (hB.cell (p := ⟨x.heap.size, 0, none⟩) (by simp)).trans (by go_simp)
theorem made_free {x y : World} {v : Value} {t : TypeId} (hB : Ext (x.alloc (.cells #[v] t)) y) : y.frozen? ⟨x.heap.size, 0, none⟩ = false :=
  (hB.frozen (p := ⟨x.heap.size, 0, none⟩) (by simp)).trans (by go_simp)
theorem made_size {x y : World} {v : Value} {t : TypeId} (hB : Ext (x.alloc (.cells #[v] t)) y) : x.heap.size < y.heap.size := by
  have := hB.size; simp at this; omega
theorem drawn {x y : World} (hB : Ext x.drew y) : Ext x y := ((Ext.refl x).drew).below hB
theorem set_same {x : World} {p : Addr} {u v : Value} (h : x.cell? p = some u) : (x.setCell p v).cell? p = some v := by
  go_simp
theorem kept_cell {x y : World} {p : Addr} {v : Value} (hB : Ext x y) (h : x.cell? p = some v) : y.cell? p = some v := (hB.cell (World.block_lt_of_cell? x _ h)).trans h
theorem kept_free {x y : World} {p : Addr} {v : Value} (hB : Ext x y) (h : x.cell? p = some v) (g : x.frozen? p = false) : y.frozen? p = false := (hB.frozen (World.block_lt_of_cell? x _ h)).trans g

/-- The first m numbers put anew. -/
structure Upd (n p : Nat) (G : Nat → Nat) (m : Nat) (l o : List Nat) : Prop where
  len : o.length = n
  lt : ∀ x ∈ o, x < p
  at_ : ∀ i, lb o i = if i < m then G i else lb l i
theorem Upd.start {n p : Nat} {G : Nat → Nat} {l : List Nat} (h : l.length = n) (hl : ∀ x ∈ l, x < p) : Upd n p G 0 l l := ⟨h, hl, fun i => by rw [if_neg (by omega)]⟩
theorem Upd.step {n p : Nat} {G : Nat → Nat} {m : Nat} {l o : List Nat} (H : Upd n p G m l o) (hm : m < n) (hG : G m < p) : Upd n p G (m + 1) l (o.set m (G m)) := by
  refine ⟨by simp [H.len], set_lt H.lt hG, fun i => ?_⟩
  rw [lb_set _ _ _ _ (by rw [H.len]; exact hm)]
  by_cases e : m = i
  · subst e; rw [if_pos rfl, if_pos (by omega)]
  · rw [if_neg e, H.at_ i]
    by_cases c : i < m
    · rw [if_pos c, if_pos (by omega)]
    · rw [if_neg c, if_neg (by omega)]

set_option maxRecDepth 100000 in
set_option maxHeartbeats 4000000 in
theorem rests_calls (w : World) (f : Fd) (F : Fld f) (k n : Nat) (hn : 2 ^ k = n) (hk : k ≤ 16) (va vb : Value) (a b : List Nat) (hua : U w va a) (hub : U w vb b)
    (ha : a.length ≤ n) (hb : b.length ≤ n) (hab : a.length + b.length ≤ n + 1) :
    Calls Tryz.prog 112 #[f.V, va, vb, .int .i64 (k : Nat)] w fun e w' => (∃ u r, e = .returned u ∧ U w' u r ∧ r.length = n ∧ (∀ x ∈ r, x < f.p) ∧ ∀ j, j < n → Eqm (f.p : Int) ((lb r j : Nat) : Int) ((cv a b a.length j : Nat) : Int)) ∧ Ext w w' := by
  have hG := F.good
  have p0 := hG.p0
  have p1 := hG.p1
  have hn1 : n ≤ 65536 := by rw [← hn]; exact Nat.pow_le_pow_right (by decide) hk
  have hn0 : 0 < n := by rw [← hn]; exact Nat.two_pow_pos k
  have HN := Lib.hid hn
  have HMath := Lib.hid (fun x y z u r => @rest_math f F k n (by omega) hn a b ha hab x y z u r)
  have hw1 : IntKind.i64.wrap ((2 : Int) ^ k) = (n : Int) := by rw [IntKind.wrap_i64, ← hn]; have : ((2 ^ k : Nat) : Int) = (2 : Int) ^ k := by simp
                                                                rw [← this]; omega
  have hk0 : (0 : Int) ≤ (k : Int) := by omega
  have hk1 : decide ((k : Int) < 0) = false := by rw [decide_eq_false_iff_not]; omega
  have hmf : ∀ (fn : Fn) (first cap : Array Value) (w : World), (Instr.makeFunc fn first cap).run Tryz.prog w = .ok (.func fn first cap) w := fun _ _ _ _ => rfl
  have HX := Bx.new w f
  obtain ⟨b0, b1, b2, b3, b4, b5⟩ := id HX
  clear hn
  unfold Fd.V
  go_enter Tryz.func112, Tryz.ntmps112
  go_upto_region 2 with (fail)
  have hE0 : Ext w ((w.alloc (.cells #[.int .u32 (f.p : Int), .int .u32 (f.root : Int), .int .u32 (f.neg : Int), .int .u32 (f.square : Int), .int .u32 (f.ahead : Int)] 137)).alloc (.cells #[.int .i64 (n : Nat)] 3)) := ((Ext.refl w).alloc _).alloc _
  have hX1 := HX.ext ((Ext.refl _).alloc (.cells #[.int .i64 (n : Nat)] 3))
  have hN1 : ((w.alloc (.cells #[.int .u32 (f.p : Int), .int .u32 (f.root : Int), .int .u32 (f.neg : Int), .int .u32 (f.square : Int), .int .u32 (f.ahead : Int)] 137)).alloc (.cells #[.int .i64 (n : Nat)] 3)).cell? ⟨w.heap.size + 1, 0, none⟩ = some (.int .i64 (n : Nat)) := by
    rw [show w.heap.size + 1 = (w.alloc (.cells #[.int .u32 (f.p : Int), .int .u32 (f.root : Int), .int .u32 (f.neg : Int), .int .u32 (f.square : Int), .int .u32 (f.ahead : Int)] 137)).heap.size by simp]
    go_simp
  have hs1 : w.heap.size + 1 < ((w.alloc (.cells #[.int .u32 (f.p : Int), .int .u32 (f.root : Int), .int .u32 (f.neg : Int), .int .u32 (f.square : Int), .int .u32 (f.ahead : Int)] 137)).alloc (.cells #[.int .i64 (n : Nat)] 3)).heap.size := by simp
  clear HX b0 b1 b2 b3 b4 b5
  generalize (w.alloc (.cells #[.int .u32 (f.p : Int), .int .u32 (f.root : Int), .int .u32 (f.neg : Int), .int .u32 (f.square : Int), .int .u32 (f.ahead : Int)] 137)).alloc (.cells #[.int .i64 (n : Nat)] 3) = w2 at *
  have hPW := Lib.hid (fun W => powers_calls W f hG k n (rt f k) HN.out.symm (by omega))
  go_cut [10] from 21 to 26 (fun s10 wx => ∃ (q Bq : Nat) (pw : List Nat), s10 = .pointer (some ⟨Bq, 0, none⟩) ∧ Bq < wx.heap.size ∧ wx.cell? ⟨Bq, 0, none⟩ = some (.slice (some ⟨q, 0, none⟩) pw.length pw.length) ∧ Hid (Pw f k (rt f k) pw) ∧ Rd wx q pw ∧ Ext w2 wx)
  case first =>
    have hdd : w2.drew.heap.size = w2.heap.size := rfl
    have hS0 : (w.heap.size < w2.drew.heap.size ∧ w2.drew.cell? ⟨w.heap.size, 0, none⟩ = some (.int .u32 (f.p : Int)) ∧ w2.drew.cell? ⟨w.heap.size, 1, none⟩ = some (.int .u32 (f.root : Int)) ∧ w2.drew.cell? ⟨w.heap.size, 2, none⟩ = some (.int .u32 (f.neg : Int)) ∧ w2.drew.cell? ⟨w.heap.size, 3, none⟩ = some (.int .u32 (f.square : Int)) ∧ w2.drew.cell? ⟨w.heap.size, 4, none⟩ = some (.int .u32 (f.ahead : Int))) ∧ w2.drew.cell? ⟨w.heap.size + 1, 0, none⟩ = some (.int .i64 (n : Nat)) := ⟨hX1, hN1⟩
    go_region_held3 (fun X => (w.heap.size < X.heap.size ∧ X.cell? ⟨w.heap.size, 0, none⟩ = some (.int .u32 (f.p : Int)) ∧ X.cell? ⟨w.heap.size, 1, none⟩ = some (.int .u32 (f.root : Int)) ∧ X.cell? ⟨w.heap.size, 2, none⟩ = some (.int .u32 (f.neg : Int)) ∧ X.cell? ⟨w.heap.size, 3, none⟩ = some (.int .u32 (f.square : Int)) ∧ X.cell? ⟨w.heap.size, 4, none⟩ = some (.int .u32 (f.ahead : Int))) ∧ X.cell? ⟨w.heap.size + 1, 0, none⟩ = some (.int .i64 (n : Nat)))
      (first
        | exact hS0
        | assumption
        | exact keepN (by assumption) (by assumption)
        | exact keepN (by assumption) ((Ext.refl _).alloc _)
        | exact keepN (keepN (by assumption) ((Ext.refl _).alloc _)) (by assumption)
        | exact keepN (keepN (keepN hS0 hB3) hB4) ((Ext.refl _).alloc _)
        | exact keepNS (keepN (keepN (keepN hS0 ((Ext.refl _).alloc _)) hB3) hB4) (by omega) (by omega)
        | exact keepNS (keepN (keepN (keepN hS0 hB3) ((Ext.refl _).alloc _)) hB4) (by omega) (by omega)
        | exact keepNS (by assumption) (by omega) (by omega)
        | exact keepNS (keepN (by assumption) ((Ext.refl _).alloc _)) (by omega) (by omega))
      (first
        | (go_at_call 130; ((with_reducible refine (of_calls _ f hG k (by omega)).mono ?_); rintro e w3 ⟨rfl, hB3⟩; have hs3 := hB3.size; first | (have h0 : Ext w2.drew w3 := hB3) | (have hz3 : w3.cell? ⟨w2.heap.size, 0, none⟩ = some (.slice none 0 0) := made_cell (x := w2.drew) hB3; have hf3 : w3.frozen? ⟨w2.heap.size, 0, none⟩ = false := made_free (x := w2.drew) hB3; have hl3 : w2.heap.size < w3.heap.size := made_size (x := w2.drew) hB3)))
        | (go_at_call 129; ((with_reducible refine (hPW.out _).mono ?_); rintro e w4 ⟨⟨q, pw, rfl, hpw, hown⟩, hB4⟩; have hs4 := hB4.size; first | (have hz4 := kept_cell hB4 hz3; have hf4 := kept_free hB4 hz3 hf3) | (have hz4 : w4.cell? ⟨w3.heap.size, 0, none⟩ = some (.slice none 0 0) := made_cell (x := w3) hB4; have hf4 : w4.frozen? ⟨w3.heap.size, 0, none⟩ = false := made_free (x := w3) hB4; have hl4 : w3.heap.size < w4.heap.size := made_size (x := w3) hB4) | skip)))
    · go_wp2_with (fail)
      go_meet
      exact ⟨q, w4.heap.size, pw, rfl, by simp, by go_simp, hpw, ((But.refl w4.heap.size w4).ext ((Ext.refl w4).alloc _)).rd hown.rd (by have := hown.block; omega), ((drawn hB3).below hB4).alloc _⟩
    · go_wp2_with (fail)
      go_meet
      exact ⟨q, w3.heap.size, pw, rfl, by simp; omega, set_same hz4, hpw, ((But.refl w3.heap.size w4).setCell 0 _).rd hown.rd (by have := hown.block; simp at this; omega), ((((drawn hB3).alloc _).below hB4).setCell (p := ⟨w3.heap.size, 0, none⟩) (by exact (drawn hB3).size) _)⟩
    · go_wp2_with (fail)
      go_meet
      exact ⟨q, w2.heap.size, pw, rfl, by simp; omega, set_same hz4, hpw, ((But.refl w2.heap.size w4).setCell 0 _).rd hown.rd (by have := hown.block; omega), (((((Ext.refl w2).alloc _).below (drawn hB3)).below hB4).setCell (p := ⟨w2.heap.size, 0, none⟩) (Nat.le_refl _) _)⟩
  case rest =>
    obtain ⟨q, Bq, pw, rfl, hq1, hq2, hpw, hrd, hE2⟩ := hcut
    have hX := hX1.ext hE2
    have hNc := kept_cell hE2 hN1
    have hE := hE0.below hE2
    have hs2 := hE2.size
    replace hua := hua.below hE
    replace hub := hub.below hE
    clear hE0 hX1 hN1 hPW hE2
    have hLa := Lib.hid (fun W h1 h2 h3 h4 hu => load_calls W f hG k n (rt f k) (w.heap.size + 1) w.heap.size Bq q pw HN.out (by omega) (F.rt (by omega)) hpw.out h1 h2 h3 h4 va a hu ha)
    have hLb := Lib.hid (fun W h1 h2 h3 h4 hu => load_calls W f hG k n (rt f k) (w.heap.size + 1) w.heap.size Bq q pw HN.out (by omega) (F.rt (by omega)) hpw.out h1 h2 h3 h4 vb b hu hb)
    have hwc : w.heap.size + 1 < wc.heap.size := by omega
    go_wp2_with (fail)
    refine (hLa.out _ hrd ⟨hwc, hNc⟩ hX ⟨hq1, hq2⟩ hua).mono ?_
    rintro e w5 ⟨⟨g1, o1, rfl, hd1, hown1⟩, hB5⟩
    have hs5 := hB5.size
    have HD1 := Lib.hid hd1
    replace hrd := (But.refl wc.heap.size wc).ext hB5 |>.rd hrd (by have := hrd.1; omega)
    replace hNc := kept_cell hB5 hNc
    replace hX := hX.ext hB5
    replace hq2 := kept_cell hB5 hq2
    replace hub := hub.below hB5
    replace hE := hE.below hB5
    clear hd1 hB5 hLa hua
    go_wp2_with (fail)
    refine (hLb.out _ hrd ⟨by omega, hNc⟩ hX ⟨by omega, hq2⟩ hub).mono ?_
    rintro e w6 ⟨⟨g2, o2, rfl, hd2, hown2⟩, hB6⟩
    have hs6 := hB6.size
    have HD2 := Lib.hid hd2
    replace hNc := kept_cell hB6 hNc
    replace hX := hX.ext hB6
    replace hE := hE.below hB6
    have hbl1 := hown1.block
    have hbl2 := hown2.block
    replace hown1 := hown1.ext hB6
    clear hd2 hB6 hLb hub hrd hq2 hq1 hpw
    have hg12 : g2 ≠ g1 := by omega
    have hgf : w.heap.size ≠ g1 := by omega
    have hgn : w.heap.size + 1 ≠ g1 := by omega
    have hl1 := HD1.out.len
    have hl2 := HD2.out.len
    rw [HN.out] at hl1 hl2
    have HL1 := Lib.hid hl1
    have HL2 := Lib.hid hl2
    have HT1 := Lib.hid HD1.out.lt
    have HT2 := Lib.hid HD2.out.lt
    have hrd2 := hown2.rd
    clear hl1 hl2 hown2
    go_wp2_with (fail)
    go_loopw [36] (fun t wr => ∃ (m : Nat) (o : List Nat), m ≤ n ∧ t = .int .i64 (m : Nat) ∧ Hid (Upd n f.p (fun i => mm f (lb o1 i) (lb o2 i)) m o1 o) ∧ Own wr wc.heap.size (.slice (some ⟨g1, 0, none⟩) n n) o ∧ But g1 w6 wr) (fun t _ => n - (intOf t).toNat)
    case atStart => exact ⟨0, o1, Nat.zero_le _, rfl, Upd.start HL1.out HT1.out, hown1, But.refl _ _⟩
    case round =>
      clear hown1
      obtain ⟨m, o, hm, rfl, HO, hown, hB⟩ := hrel
      by_cases hlt : m < n
      · have hc1 := hown.rd.2 m (by rw [HO.out.len]; exact hlt)
        have hc2 := (hB.rd hrd2 hg12).2 m (by rw [HL2.out]; exact hlt)
        obtain ⟨b0, b1, b2, b3, b4, b5⟩ := hB.bx hX hgf
        have HST := Lib.hid (HO.out.step hlt (mm_lt f hG _ _))
        have he := HO.out.at_ m
        rw [if_neg (by omega)] at he
        rw [he] at hc1
        have hx1 : lb o1 m < f.p := lb_lt_of (by omega) HT1.out _
        have hy1 : lb o2 m < f.p := lb_lt_of (by omega) HT2.out _
        have hol := HO.out.len
        generalize lb o1 m = x at *
        generalize lb o2 m = y at *
        have hm0 : (0 : Int) ≤ (m : Int) := by omega
        have hm1 : (m : Int) < (n : Int) := by omega
        clear HO he
        go_wp2
        have hD0 : But g1 w6 wr.drew := hB.drew
        go_region_with (first
          | (go_at_call 134; ((with_reducible refine (mul_calls _ f hG x y (by omega) (by omega) (lt_prod (by omega) hy1)).mono ?_); rintro e w8 ⟨rfl, hB8⟩; have ho8 := hown.drew.ext hB8; have hc8 := ho8.rd.2 m (by omega); have hf8 := ho8.frozen' m; have ho9 := ho8.set' m (mm f x y); have hB9 := (hD0.ext hB8).setCell m (.int .u32 (mm f x y : Nat)))))
        all_goals
          (go_wp2
           go_roundw
           case rel => exact ⟨m + 1, _, by omega, by go_num, HST, ho9, hB9⟩
           case measure => simp [intOf]; omega)
      · obtain rfl : m = n := by omega
        have HZ1 := Lib.hid HO.out.len
        have HZ2 := Lib.hid HO.out.lt
        have HZ3 : Hid (∀ q, q < m → lb o q = mm f (lb o1 q) (lb o2 q)) := fun q hq => by rw [HO.out.at_ q, if_pos hq]
        clear HO hlt hm hrd2 HT1 HT2 HL1 HL2
        have hw6 : w.heap.size + 1 < w6.heap.size := by omega
        go_wp2_with (fail)
        have hS0 : (w.heap.size < wr.drew.heap.size ∧ wr.drew.cell? ⟨w.heap.size, 0, none⟩ = some (.int .u32 (f.p : Int)) ∧ wr.drew.cell? ⟨w.heap.size, 1, none⟩ = some (.int .u32 (f.root : Int)) ∧ wr.drew.cell? ⟨w.heap.size, 2, none⟩ = some (.int .u32 (f.neg : Int)) ∧ wr.drew.cell? ⟨w.heap.size, 3, none⟩ = some (.int .u32 (f.square : Int)) ∧ wr.drew.cell? ⟨w.heap.size, 4, none⟩ = some (.int .u32 (f.ahead : Int))) ∧ wr.drew.cell? ⟨w.heap.size + 1, 0, none⟩ = some (.int .i64 (m : Nat)) := ⟨hB.bx hX hgf, (hB.cell (p := ⟨w.heap.size + 1, 0, none⟩) hw6 hgn).trans hNc⟩
        have ho2 : Own wr.drew wc.heap.size (.slice (some ⟨g1, 0, none⟩) m m) o := hown.drew
        have hB2 : But g1 w6 wr.drew := hB.drew
        have hPW := Lib.hid (fun W => powers_calls W f hG k m (bt f k) HN.out.symm (by omega))
        clear hown hB
        go_region_held3 (fun X => (w.heap.size < X.heap.size ∧ X.cell? ⟨w.heap.size, 0, none⟩ = some (.int .u32 (f.p : Int)) ∧ X.cell? ⟨w.heap.size, 1, none⟩ = some (.int .u32 (f.root : Int)) ∧ X.cell? ⟨w.heap.size, 2, none⟩ = some (.int .u32 (f.neg : Int)) ∧ X.cell? ⟨w.heap.size, 3, none⟩ = some (.int .u32 (f.square : Int)) ∧ X.cell? ⟨w.heap.size, 4, none⟩ = some (.int .u32 (f.ahead : Int))) ∧ X.cell? ⟨w.heap.size + 1, 0, none⟩ = some (.int .i64 (m : Nat)))
          (first
            | exact hS0
            | assumption
            | exact keepN (by assumption) (by assumption))
          (first
            | (go_at_call 136; ((with_reducible refine (backward_calls _ f hG k (by omega)).mono ?_); rintro e w3 ⟨rfl, hB3⟩; have ho3 := ho2.ext hB3; have hE4 := hB2.ext hB3))
            | (go_at_call 129; ((with_reducible refine (hPW.out _).mono ?_); rintro e w4 ⟨⟨q2, pw2, rfl, hpw2, hown⟩, hB4⟩; have ho4 := ho3.ext hB4; have hE5 := hE4.ext hB4; have hblk3 := ho3.block; have hqb := hown.block))
            | (go_at_call 135; ((with_reducible refine (up_n _ f hG k (bt f k) m o pw2 g1 q2 m wc.heap.size HN.out (by omega) (F.bt (by omega)) hpw2 (by rw [HZ1.out, HN.out]) HZ2.out ho4 hown.rd (by omega)).mono ?_); rintro e w5 ⟨rfl, ⟨u5, hu5, ho5⟩, hB5⟩; have hE6 := hE5.trans hB5; have hX5 : (w.heap.size < w5.heap.size ∧ w5.cell? ⟨w.heap.size, 0, none⟩ = some (.int .u32 (f.p : Int)) ∧ w5.cell? ⟨w.heap.size, 1, none⟩ = some (.int .u32 (f.root : Int)) ∧ w5.cell? ⟨w.heap.size, 2, none⟩ = some (.int .u32 (f.neg : Int)) ∧ w5.cell? ⟨w.heap.size, 3, none⟩ = some (.int .u32 (f.square : Int)) ∧ w5.cell? ⟨w.heap.size, 4, none⟩ = some (.int .u32 (f.ahead : Int))) ∧ w5.cell? ⟨w.heap.size + 1, 0, none⟩ = some (.int .i64 (m : Nat)) := ⟨hE6.bx hX hgf, (hE6.cell (p := ⟨w.heap.size + 1, 0, none⟩) hw6 hgn).trans hNc⟩)))
        have HU := Lib.hid hu5
        clear hu5 hpw2 hown hblk3 hqb hB5 hB4 hB3 ho4 ho3 hE5 hE4 ho2 hB2 hS0
        go_wp2_with (fail)
        have hS1 : (w.heap.size < w5.drew.heap.size ∧ w5.drew.cell? ⟨w.heap.size, 0, none⟩ = some (.int .u32 (f.p : Int)) ∧ w5.drew.cell? ⟨w.heap.size, 1, none⟩ = some (.int .u32 (f.root : Int)) ∧ w5.drew.cell? ⟨w.heap.size, 2, none⟩ = some (.int .u32 (f.neg : Int)) ∧ w5.drew.cell? ⟨w.heap.size, 3, none⟩ = some (.int .u32 (f.square : Int)) ∧ w5.drew.cell? ⟨w.heap.size, 4, none⟩ = some (.int .u32 (f.ahead : Int))) ∧ w5.drew.cell? ⟨w.heap.size + 1, 0, none⟩ = some (.int .i64 (m : Nat)) := hX5
        have hOut := Lib.hid (fun W => out_calls W f hG (mont f (sh f m)) (by have := mont_lt f hG (sh f m); omega))
        go_region_held3 (fun X => (w.heap.size < X.heap.size ∧ X.cell? ⟨w.heap.size, 0, none⟩ = some (.int .u32 (f.p : Int)) ∧ X.cell? ⟨w.heap.size, 1, none⟩ = some (.int .u32 (f.root : Int)) ∧ X.cell? ⟨w.heap.size, 2, none⟩ = some (.int .u32 (f.neg : Int)) ∧ X.cell? ⟨w.heap.size, 3, none⟩ = some (.int .u32 (f.square : Int)) ∧ X.cell? ⟨w.heap.size, 4, none⟩ = some (.int .u32 (f.ahead : Int))) ∧ X.cell? ⟨w.heap.size + 1, 0, none⟩ = some (.int .i64 (m : Nat)))
          (first
            | exact hS1
            | assumption
            | exact keepN (by assumption) (by assumption))
          (first
            | (go_at_call 138; ((with_reducible refine (share_calls _ f hG m (by omega)).mono ?_); rintro e w7 ⟨rfl, hB7⟩))
            | (go_at_call 137; ((with_reducible refine (hOut.out _).mono ?_); rintro e w8 ⟨rfl, hB8⟩)))
        have HSH : Hid (mm f (mont f (sh f m)) 1 = sh f m % f.p) := mm_one f hG _
        have hsp := mm_lt f hG (mont f (sh f m)) 1
        generalize mm f (mont f (sh f m)) 1 = S at *
        have hB9 : Ext w5 w8 := (drawn hB7).below hB8
        replace ho5 := ho5.ext hB9
        replace hE6 := hE6.ext hB9
        clear hB7 hB8 hB9 hS1 hX5 hOut
        have HU1 := Lib.hid HU.out.len
        have HU2 := Lib.hid HU.out.lt
        rw [HN.out] at HU1
        go_wp2_with (fail)
        go_loopw [68] (fun t wr => ∃ (j : Nat) (r : List Nat), j ≤ m ∧ t = .int .i64 (j : Nat) ∧ Hid (Upd m f.p (fun i => mm f (lb u5 i) S) j u5 r) ∧ Own wr wc.heap.size (.slice (some ⟨g1, 0, none⟩) m m) r ∧ But g1 w6 wr) (fun t _ => m - (intOf t).toNat)
        case atStart => exact ⟨0, u5, Nat.zero_le _, rfl, Upd.start HU1.out HU2.out, ho5, hE6⟩
        case round =>
          clear ho5 hE6
          obtain ⟨j, r, hj, rfl, HO, hown, hB⟩ := hrel
          by_cases hlt : j < m
          · have hc1 := hown.rd.2 j (by rw [HO.out.len]; exact hlt)
            obtain ⟨b0, b1, b2, b3, b4, b5⟩ := hB.bx hX hgf
            have HST := Lib.hid (HO.out.step hlt (mm_lt f hG _ _))
            have he := HO.out.at_ j
            rw [if_neg (by omega)] at he
            rw [he] at hc1
            have hx1 : lb u5 j < f.p := lb_lt_of (by omega) HU2.out _
            have hol := HO.out.len
            generalize lb u5 j = x at *
            have hm0 : (0 : Int) ≤ (j : Int) := by omega
            have hm1 : (j : Int) < (m : Int) := by omega
            clear HO he
            go_wp2_with (fail)
            refine (mul_calls _ f hG x S (by omega) (by omega) (lt_prod (by omega) hsp)).mono ?_
            rintro e w9 ⟨rfl, hB9⟩
            have ho9 := hown.ext hB9
            have hc9 := ho9.rd.2 j (by omega)
            have hf9 := ho9.frozen' j
            have ho10 := ho9.set' j (mm f x S)
            have hB10 := (hB.ext hB9).setCell j (.int .u32 (mm f x S : Nat))
            generalize mm f x S = y at *
            clear b0 b1 b2 b3 b4 b5 hown hc1 hB ho9 hB9
            go_wp2_with (fail)
            go_roundw
            case rel => exact ⟨j + 1, _, by omega, by go_num, HST, ho10, hB10⟩
            case measure => simp [intOf]; omega
          · obtain rfl : j = m := by omega
            have HR : Hid (∀ q, q < j → lb r q = mm f (lb u5 q) (sh f j % f.p)) := fun q hq => by rw [HO.out.at_ q, if_pos hq, ← HSH.out]
            have HM := Lib.hid (HMath.out o1 o2 o u5 r HD1.out HD2.out HZ3.out HU.out HR.out)
            have hU : U wr (.slice (some ⟨g1, 0, none⟩) j j) r := hown.toU (fun x hx => Nat.lt_trans (HO.out.lt x hx) (by omega)) (by rw [HO.out.len]; omega)
            have HF : Hid (∃ u r, Ending.returned (.slice (some ⟨g1, 0, none⟩) j j) = .returned u ∧ U wr u r ∧ r.length = j ∧ (∀ x ∈ r, x < f.p) ∧ ∀ q, q < j → Eqm (f.p : Int) ((lb r q : Nat) : Int) ((cv a b a.length q : Nat) : Int)) := ⟨_, r, rfl, hU, HO.out.len, HO.out.lt, HM.out⟩
            have hE9 : Ext w wr := Below.trans hE ((hB.below (B := w.heap.size) (by omega) (by omega)))
            clear HO HM hU HR hown hB
            go_wp2_with (fail)
            go_ret
            exact ⟨HF.out, hE9⟩
end Go.Proofs.YtigdflfhepelaaaGreatDoor
/- The number below all three primes' product that has three rests. -/
namespace Go.Proofs.YtigdflfhepelaaaGreatDoor
open Go.RowKit
set_option linter.unusedVariables false
set_option maxHeartbeats 400000

/-- One step: what of N is known up to q, and modulo a prime p, gives the next digit. -/
theorem garner {f : Fd} (hf : Good f) (q N low v s : Nat) (hinv : q * f.ahead * f.ri % f.p = 1) (hlow : N % q = low) (hN : N / q < f.p)
    (hs : Eqm (f.p : Int) (s : Int) ((N : Int) - (low : Int))) (hv : v = mm f s f.ahead) : N / q = v := by
  have h1 : (N : Int) = (low : Int) + (q : Int) * ((N / q : Nat) : Int) := by
    have := Nat.mod_add_div N q
    rw [hlow] at this
    omega
  have h2 : Eqm (f.p : Int) ((q : Int) * (f.ahead : Int) * (f.ri : Int)) 1 := by
    have := eqm_of_mod (p := f.p) (a := q * f.ahead * f.ri) (b := 1) (by rw [hinv, Nat.mod_eq_of_lt hf.p0])
    rwa [Int.natCast_mul, Int.natCast_mul] at this
  have h3 : Eqm (f.p : Int) ((mm f s f.ahead : Nat) : Int) ((N / q : Nat) : Int) := by
    refine (mm_eqm f s f.ahead).trans ?_
    have h4 := (hs.mul (Eqm.refl _ (f.ahead : Int))).mul (Eqm.refl _ (f.ri : Int))
    refine h4.trans ?_
    have h5 := h2.mul (Eqm.refl (f.p : Int) ((N / q : Nat) : Int))
    rw [Int.one_mul] at h5
    refine Eqm.trans (Eqm.of_eq ?_) h5
    rw [h1]
    grind
  rw [hv]
  exact (h3.eq (mm_lt f hf _ _) hN).symm
theorem inv1 : F0.p * F1.ahead * F1.ri % F1.p = 1 := by decide +kernel
theorem inv2 : F0.p * F1.p * F2.ahead * F2.ri % F2.p = 1 := by decide +kernel
/-- s is y less x, modulo p. -/
theorem sub_eqm2 (p x y : Nat) (hp : 0 < p) (hx : x < p) : Eqm (p : Int) (((y + p - x) % p : Nat) : Int) ((y : Int) - (x : Int)) :=
  (Eqm.nat_mod _ _).trans (sub_eqm p y x (by omega))
theorem join_math (N x y z : Nat) (hx : N % F0.p = x) (hy : N % F1.p = y) (hz : N % F2.p = z) (hN : N < F0.p * F1.p * F2.p) (v low w : Nat)
    (hv : v = mm F1 ((y + F1.p - x % F1.p) % F1.p) F1.ahead) (hl : low = F0.p * v + x) (hw : w = mm F2 ((z + F2.p - low % F2.p) % F2.p) F2.ahead) :
    N = low + F0.p * F1.p * w ∧ N % (F0.p * F1.p) = low := by
  have g1 := F1_fld.good
  have g2 := F2_fld.good
  have q1 : 0 < F1.p := by decide
  have q2 : 0 < F2.p := by decide
  have hlow : N % (F0.p * F1.p) = low := by
    have h1 : N % (F0.p * F1.p) % F0.p = x := by rw [Nat.mod_mul_right_mod, hx]
    have h2 : N % (F0.p * F1.p) / F0.p = v := by
      refine garner g1 F0.p (N % (F0.p * F1.p)) x v _ inv1 h1 ?_ ?_ hv
      · exact Nat.div_lt_of_lt_mul (Nat.mod_lt _ (by decide))
      · refine (sub_eqm2 F1.p (x % F1.p) y q1 (Nat.mod_lt _ q1)).trans (Eqm.sub ?_ (Eqm.nat_mod _ _))
        rw [← hy]
        refine (Eqm.nat_mod _ _).trans ?_
        have : Eqm (F1.p : Int) ((N % (F0.p * F1.p) : Nat) : Int) (N : Int) := by
          refine (Eqm.nat_mod _ _).symm.trans ?_
          rw [Nat.mod_mul_left_mod]
          exact Eqm.nat_mod _ _
        exact this.symm
    have h3 := Nat.mod_add_div (N % (F0.p * F1.p)) F0.p
    rw [h1, h2] at h3
    omega
  have h4 : N / (F0.p * F1.p) = w := by
    refine garner g2 (F0.p * F1.p) N low w _ inv2 hlow ?_ ?_ hw
    · exact Nat.div_lt_of_lt_mul hN
    · refine (sub_eqm2 F2.p (low % F2.p) z q2 (Nat.mod_lt _ q2)).trans (Eqm.sub ?_ (Eqm.nat_mod _ _))
      rw [← hz]
      exact Eqm.nat_mod _ _
  have h5 := Nat.mod_add_div N (F0.p * F1.p)
  rw [hlow, h4] at h5
  exact ⟨h5.symm, hlow⟩
end Go.Proofs.YtigdflfhepelaaaGreatDoor
/- Limbs to the base 2^32 and the numbers that they are: plain lists and naturals. -/
namespace Go.Proofs.YtigdflfhepelaaaGreatDoor

/-- The number that limbs are, the lowest first. -/
def val : List Nat → Nat
  | [] => 0
  | x :: xs => x + 4294967296 * val xs

/-- The limbs of a number. -/
def limbs (n : Nat) : List Nat := if h : n = 0 then [] else n % 4294967296 :: limbs (n / 4294967296)
termination_by n
decreasing_by exact Nat.div_lt_self (Nat.pos_of_ne_zero h) (by decide)

theorem limbs_zero : limbs 0 = [] := by rw [limbs]; simp
theorem limbs_pos {n : Nat} (h : n ≠ 0) : limbs n = n % 4294967296 :: limbs (n / 4294967296) := by rw [limbs]; simp [h]

theorem val_limbs (n : Nat) : val (limbs n) = n := by
  induction n using Nat.strongRecOn with
  | _ n ih =>
    by_cases h : n = 0
    · subst h; rw [limbs_zero]; rfl
    · rw [limbs_pos h]
      have := ih (n / 4294967296) (Nat.div_lt_self (Nat.pos_of_ne_zero h) (by decide))
      simp only [val, this]
      omega

theorem limbs_lt (n : Nat) : ∀ x ∈ limbs n, x < 4294967296 := by
  induction n using Nat.strongRecOn with
  | _ n ih =>
    by_cases h : n = 0
    · subst h; rw [limbs_zero]; simp
    · rw [limbs_pos h]
      intro x hx
      rcases List.mem_cons.1 hx with rfl | hx
      · omega
      · exact ih (n / 4294967296) (Nat.div_lt_self (Nat.pos_of_ne_zero h) (by decide)) x hx

theorem val_append (xs ys : List Nat) : val (xs ++ ys) = val xs + 4294967296 ^ xs.length * val ys := by
  induction xs with
  | nil => simp [val]
  | cons x xs ih =>
    simp only [List.cons_append, val, ih, List.length_cons, Nat.pow_succ]
    rw [Nat.mul_add, Nat.add_assoc]
    congr 2
    rw [← Nat.mul_assoc, Nat.mul_comm 4294967296]

theorem val_lt (xs : List Nat) (h : ∀ x ∈ xs, x < 4294967296) : val xs < 4294967296 ^ xs.length := by
  induction xs with
  | nil => simp [val]
  | cons x xs ih =>
    have h1 := ih fun y hy => h y (List.mem_cons_of_mem _ hy)
    have h2 := h x (List.mem_cons_self ..)
    simp only [val, List.length_cons, Nat.pow_succ]
    rw [Nat.mul_comm]
    have : val xs * 4294967296 + 4294967296 ≤ 4294967296 ^ xs.length * 4294967296 := by
      have := Nat.mul_le_mul_right 4294967296 (show val xs + 1 ≤ 4294967296 ^ xs.length from h1)
      rw [Nat.add_mul] at this
      omega
    omega

theorem val_replicate_zero (k : Nat) : val (List.replicate k 0) = 0 := by
  induction k with
  | zero => rfl
  | succ k ih => simp [List.replicate_succ, val, ih]

/-- Limbs whose last one is not 0 are the limbs of their number. -/
theorem limbs_val (xs : List Nat) (h : ∀ x ∈ xs, x < 4294967296) (hl : xs ≠ [] → xs[xs.length - 1]?.getD 0 ≠ 0) : limbs (val xs) = xs := by
  induction xs with
  | nil => rw [val, limbs_zero]
  | cons x xs ih =>
    have h2 := h x (List.mem_cons_self ..)
    have ih' := ih (fun y hy => h y (List.mem_cons_of_mem _ hy)) (fun hne => by
      have := hl (by simp)
      cases xs with
      | nil => exact absurd rfl hne
      | cons y ys => simpa using this)
    have hne : val (x :: xs) ≠ 0 := by
      cases xs with
      | nil => have := hl (by simp); simp [val] at this ⊢; exact this
      | cons y ys =>
        intro h0
        simp only [val] at h0
        have : val (y :: ys) = 0 := by simp only [val]; omega
        rw [this, limbs_zero] at ih'
        cases ih'
    rw [limbs_pos hne]
    have e1 : val (x :: xs) % 4294967296 = x := by simp only [val]; omega
    have e2 : val (x :: xs) / 4294967296 = val xs := by simp only [val]; omega
    rw [e1, e2, ih']

theorem limbs_last {n : Nat} (h : n ≠ 0) : (limbs n)[(limbs n).length - 1]?.getD 0 ≠ 0 := by
  induction n using Nat.strongRecOn with
  | _ n ih =>
    rw [limbs_pos h]
    by_cases h2 : n / 4294967296 = 0
    · rw [h2, limbs_zero]
      simp; omega
    · have := ih _ (Nat.div_lt_self (Nat.pos_of_ne_zero h) (by decide)) h2
      rw [limbs_pos h2] at this ⊢
      simpa using this

theorem limbs_eq_nil {n : Nat} : limbs n = [] ↔ n = 0 := by
  constructor
  · intro h
    have := val_limbs n
    rw [h] at this
    exact this.symm
  · rintro rfl; exact limbs_zero

theorem limbs_inj {n m : Nat} (h : limbs n = limbs m) : n = m := by rw [← val_limbs n, h, val_limbs]

theorem lt_pow_len (n : Nat) : n < 4294967296 ^ (limbs n).length := by
  have := val_lt (limbs n) (limbs_lt n)
  rwa [val_limbs] at this

theorem pow_len_le {n : Nat} (h : n ≠ 0) : 4294967296 ^ ((limbs n).length - 1) ≤ n := by
  induction n using Nat.strongRecOn with
  | _ n ih =>
    rw [limbs_pos h]
    by_cases h2 : n / 4294967296 = 0
    · rw [h2, limbs_zero]
      simp; omega
    · have := ih _ (Nat.div_lt_self (Nat.pos_of_ne_zero h) (by decide)) h2
      have hl : 0 < (limbs (n / 4294967296)).length := by
        rw [limbs_pos h2]; simp
      simp only [List.length_cons, Nat.add_sub_cancel]
      obtain ⟨k, hk⟩ : ∃ k, (limbs (n / 4294967296)).length = k + 1 := ⟨_, (Nat.succ_pred_eq_of_pos hl).symm⟩
      rw [hk] at this ⊢
      simp only [Nat.add_sub_cancel] at this
      rw [Nat.pow_succ]
      have := Nat.mul_le_mul_right 4294967296 this
      omega

theorem len_le_of_lt {n k : Nat} (h : n < 4294967296 ^ k) : (limbs n).length ≤ k := by
  by_cases h0 : n = 0
  · subst h0; rw [limbs_zero]; simp
  · have := pow_len_le h0
    have h1 : 4294967296 ^ ((limbs n).length - 1) < 4294967296 ^ k := Nat.lt_of_le_of_lt this h
    have := (Nat.pow_lt_pow_iff_right (by decide : 1 < 4294967296)).1 h1
    omega

theorem len_mono {n m : Nat} (h : n ≤ m) : (limbs n).length ≤ (limbs m).length :=
  len_le_of_lt (Nat.lt_of_le_of_lt h (lt_pow_len m))

theorem val_take (xs : List Nat) (k : Nat) (h : ∀ j, k ≤ j → j < xs.length → xs[j]?.getD 0 = 0) : val (xs.take k) = val xs := by
  have e : xs = xs.take k ++ xs.drop k := (List.take_append_drop k xs).symm
  have hz : val (xs.drop k) = 0 := by
    have : xs.drop k = List.replicate (xs.drop k).length 0 := by
      apply List.ext_getElem (by simp)
      intro i h1 h2
      have hi : k + i < xs.length := by simp at h1; omega
      have := h (k + i) (by omega) hi
      simp [List.getElem?_eq_getElem hi] at this
      simp [this]
    rw [this, val_replicate_zero]
  conv => rhs; rw [e, val_append, hz]
  simp

/-- What is left when noughts at the end are cut off. -/
theorem limbs_take (xs : List Nat) (k : Nat) (hx : ∀ x ∈ xs, x < 4294967296) (hk : k ≤ xs.length) (h : ∀ j, k ≤ j → j < xs.length → xs[j]?.getD 0 = 0)
    (hl : 0 < k → xs[k - 1]?.getD 0 ≠ 0) : limbs (val xs) = xs.take k := by
  rw [← val_take xs k h]
  apply limbs_val
  · intro x hx'; exact hx x (List.mem_of_mem_take hx')
  · intro hne
    have h0 : 0 < k := by
      rcases Nat.eq_zero_or_pos k with rfl | h0
      · simp at hne
      · exact h0
    have hlen : (xs.take k).length = k := by simp; omega
    rw [hlen, List.getElem?_take, if_pos (by omega)]
    exact hl h0

theorem strip_eq (xs : List Nat) (k : Nat) (hx : ∀ x ∈ xs, x < 4294967296) (hk : k ≤ xs.length) (h : ∀ j, k ≤ j → j < xs.length → lb xs j = 0)
    (hl : 0 < k → lb xs (k - 1) ≠ 0) : limbs (val xs) = xs.take k := limbs_take xs k hx hk h hl

theorem lb_limbs (n j : Nat) : lb (limbs n) j = n / 4294967296 ^ j % 4294967296 := by
  unfold lb
  induction j generalizing n with
  | zero =>
    by_cases h : n = 0
    · subst h; rw [limbs_zero]; simp
    · rw [limbs_pos h]; simp
  | succ j ih =>
    by_cases h : n = 0
    · subst h; rw [limbs_zero]; simp
    · rw [limbs_pos h, Nat.pow_succ', ← Nat.div_div_eq_div_mul, ← ih]
      simp

/-- How two stand to each other: -1, 0, 1. -/
def cmpI (x y : Int) : Int := if x < y then -1 else if y < x then 1 else 0
/-- The i-th bit. -/
def bitN (n : Nat) (i : Int) : Nat := if i < 0 then 0 else n / 2 ^ i.toNat % 2

end Go.Proofs.YtigdflfhepelaaaGreatDoor
/- Shifts, limb by limb: plain lists and naturals. -/
namespace Go.Proofs.YtigdflfhepelaaaGreatDoor

theorem val_set (o : List Nat) (j x : Nat) (h : j < o.length) : val (o.set j x) + lb o j * 4294967296 ^ j = val o + x * 4294967296 ^ j := by
  induction o generalizing j with
  | nil => simp at h
  | cons y ys ih =>
    cases j with
    | zero => simp [val, lb]; omega
    | succ j =>
      have := ih j (by simpa using h)
      have e : lb (y :: ys) (j + 1) = lb ys j := by simp [lb]
      rw [e]
      simp only [List.set_cons_succ, val, Nat.pow_succ]
      have h1 : lb ys j * (4294967296 ^ j * 4294967296) = 4294967296 * (lb ys j * 4294967296 ^ j) := by rw [← Nat.mul_assoc, Nat.mul_comm]
      have h2 : x * (4294967296 ^ j * 4294967296) = 4294967296 * (x * 4294967296 ^ j) := by rw [← Nat.mul_assoc, Nat.mul_comm]
      rw [h1, h2]
      omega

theorem val_take_succ (xs : List Nat) (i : Nat) (h : i < xs.length) : val (xs.take (i + 1)) = val (xs.take i) + lb xs i * 4294967296 ^ i := by
  rw [List.take_succ_eq_append_getElem h, val_append]
  have e : lb xs i = xs[i] := by simp [lb, h]
  have hl : (xs.take i).length = i := by simp; omega
  simp only [val, hl, e, Nat.mul_zero, Nat.add_zero]
  rw [Nat.mul_comm]

/-- Low bits, and bits above them: together their sum. -/
theorem or_eq_add (a b s : Nat) (ha : a < 2 ^ s) : a ||| b * 2 ^ s = a + b * 2 ^ s := by
  have := Nat.two_pow_add_eq_or_of_lt ha b
  rw [Nat.or_comm, Nat.mul_comm, ← this, Nat.add_comm]

theorem shl_low (x s : Nat) (hs : s ≤ 32) : x * 2 ^ s % 4294967296 = x % 2 ^ (32 - s) * 2 ^ s := by
  have e : 4294967296 = 2 ^ (32 - s) * 2 ^ s := by rw [← Nat.pow_add, Nat.sub_add_cancel hs]
  rw [e, Nat.mul_mod_mul_right]
theorem shl_high (x s : Nat) (hs : s ≤ 32) : x / 2 ^ (32 - s) = x * 2 ^ s / 4294967296 := by
  have e : 4294967296 = 2 ^ (32 - s) * 2 ^ s := by rw [← Nat.pow_add, Nat.sub_add_cancel hs]
  rw [e, Nat.mul_div_mul_right _ _ (Nat.two_pow_pos s)]

/-- What 'out' is after i rounds of Shl. -/
structure ShlInv (xs : List Nat) (q s L i : Nat) (o : List Nat) : Prop where
  len : o.length = L
  lt : ∀ x ∈ o, x < 4294967296
  val_eq : val o = val (xs.take i) * (4294967296 ^ q * 2 ^ s)
  low : lb o (q + i) < 2 ^ s
  rest : ∀ j, q + i < j → lb o j = 0

theorem ShlInv.start (xs : List Nat) (q s L : Nat) : ShlInv xs q s L 0 (List.replicate L 0) :=
  ⟨by simp, fun x hx => by rw [List.eq_of_mem_replicate hx]; decide, by simp [val, val_replicate_zero], by rw [lb_zeros]; exact Nat.two_pow_pos s, fun j _ => lb_zeros L j⟩

def shlStep (o : List Nat) (x q s i : Nat) : List Nat := (o.set (q + i) (lb o (q + i) ||| x * 2 ^ s % 4294967296)).set (q + i + 1) (x / 2 ^ (32 - s))

theorem ShlInv.step {xs : List Nat} {q s L i : Nat} {o : List Nat} (h : ShlInv xs q s L i o) (hs : s < 32) (hx : ∀ x ∈ xs, x < 4294967296) (hi : i < xs.length) (hL : L = q + xs.length + 1) :
    ShlInv xs q s L (i + 1) (shlStep o (lb xs i) q s i) := by
  have hxi := lb_lt hx i
  have ho : lb o (q + i) ||| lb xs i * 2 ^ s % 4294967296 = lb o (q + i) + lb xs i * 2 ^ s % 4294967296 := by
    rw [shl_low _ _ (by omega)]; exact or_eq_add _ _ _ h.low
  have hb : lb o (q + i) + lb xs i * 2 ^ s % 4294967296 < 4294967296 := by
    have h1 := shl_low (lb xs i) s (by omega)
    have h2 : lb xs i % 2 ^ (32 - s) + 1 ≤ 2 ^ (32 - s) := Nat.mod_lt _ (Nat.two_pow_pos _)
    have h3 := Nat.mul_le_mul_right (2 ^ s) h2
    rw [← Nat.pow_add, Nat.sub_add_cancel (by omega), Nat.add_mul] at h3
    have := h.low
    rw [h1]
    omega
  have hhi : lb xs i / 2 ^ (32 - s) = lb xs i * 2 ^ s / 4294967296 := shl_high _ _ (by omega)
  have hlow : lb xs i * 2 ^ s / 4294967296 < 2 ^ s := by
    rw [Nat.div_lt_iff_lt_mul (by decide), Nat.mul_comm (2 ^ s)]
    exact Nat.mul_lt_mul_of_pos_right hxi (Nat.two_pow_pos s)
  have hs32 : 2 ^ s ≤ 4294967296 := by
    have := Nat.pow_le_pow_right (show 0 < 2 by decide) (show s ≤ 32 by omega)
    simpa using this
  have e1 := val_set o (q + i) (lb o (q + i) + lb xs i * 2 ^ s % 4294967296) (by rw [h.len]; omega)
  have e2 := val_set (o.set (q + i) (lb o (q + i) + lb xs i * 2 ^ s % 4294967296)) (q + i + 1) (lb xs i * 2 ^ s / 4294967296) (by simp [h.len]; omega)
  rw [lb_set_other _ (by omega), h.rest (q + i + 1) (by omega), Nat.zero_mul, Nat.add_zero] at e2
  unfold shlStep
  rw [ho, hhi]
  refine ⟨by simp [h.len], set_lt (set_lt h.lt hb) (by omega), ?_, ?_, ?_⟩
  · rw [e2, val_take_succ xs i hi, Nat.add_mul, ← h.val_eq]
    have e3 : lb xs i * 4294967296 ^ i * (4294967296 ^ q * 2 ^ s) = (lb xs i * 2 ^ s) * 4294967296 ^ (q + i) := by
      rw [Nat.pow_add]; simp only [Nat.mul_assoc, Nat.mul_left_comm, Nat.mul_comm]
    rw [e3]
    have e4 : lb xs i * 2 ^ s = lb xs i * 2 ^ s % 4294967296 + lb xs i * 2 ^ s / 4294967296 * 4294967296 := by omega
    have e5 : lb xs i * 2 ^ s / 4294967296 * 4294967296 ^ (q + i + 1) = (lb xs i * 2 ^ s / 4294967296 * 4294967296) * 4294967296 ^ (q + i) := by
      rw [Nat.pow_succ]; simp only [Nat.mul_assoc, Nat.mul_left_comm, Nat.mul_comm]
    rw [e5]
    conv => rhs; rw [e4]
    rw [Nat.add_mul] at e1 ⊢
    omega
  · rw [show q + (i + 1) = q + i + 1 by omega, lb_set_same _ (by simp [h.len]; omega)]; exact hlow
  · intro j hj
    rw [lb_set_other _ (by omega), lb_set_other _ (by omega)]
    exact h.rest j (by omega)
theorem pow32 (q : Nat) : 4294967296 ^ q = 2 ^ (32 * q) := by rw [Nat.pow_mul]
theorem ShlInv.done {xs : List Nat} {k L : Nat} {o : List Nat} (h : ShlInv xs (k / 32) (k % 32) L xs.length o) : val o = val xs * 2 ^ k := by
  rw [h.val_eq, List.take_length, pow32, ← Nat.pow_add, Nat.div_add_mod]

theorem val_drop (xs : List Nat) (q : Nat) (hx : ∀ x ∈ xs, x < 4294967296) : val (xs.drop q) = val xs / 4294967296 ^ q := by
  by_cases hq : q ≤ xs.length
  · have e : val xs = val (xs.take q) + 4294967296 ^ q * val (xs.drop q) := by
      have h := val_append (xs.take q) (xs.drop q)
      rw [List.take_append_drop, List.length_take, Nat.min_eq_left hq] at h
      exact h
    have hlt := val_lt (xs.take q) (fun x hx' => hx x (List.mem_of_mem_take hx'))
    rw [List.length_take, Nat.min_eq_left hq] at hlt
    rw [e, Nat.add_mul_div_left _ _ (Nat.pow_pos (by decide)), Nat.div_eq_of_lt hlt, Nat.zero_add]
  · rw [List.drop_eq_nil_of_le (by omega)]
    have := val_lt xs hx
    have h2 : 4294967296 ^ xs.length ≤ 4294967296 ^ q := Nat.pow_le_pow_right (by decide) (by omega)
    rw [Nat.div_eq_of_lt (by omega)]
    rfl

structure ShrInv (ys : List Nat) (s L i : Nat) (o : List Nat) : Prop where
  len : o.length = L
  lt : ∀ x ∈ o, x < 4294967296
  val_eq : val o = val (ys.take i) / 2 ^ s
  low : 0 < i → lb o (i - 1) < 2 ^ (32 - s)
  rest : ∀ j, i ≤ j → lb o j = 0

theorem ShrInv.start (ys : List Nat) (s L : Nat) : ShrInv ys s L 0 (List.replicate L 0) :=
  ⟨by simp, fun x hx => by rw [List.eq_of_mem_replicate hx]; decide, by simp [val, val_replicate_zero], fun h => absurd h (by omega), fun j _ => lb_zeros L j⟩

def shrStep0 (o : List Nat) (x s i : Nat) : List Nat := o.set i (x / 2 ^ s)
def shrStep (o : List Nat) (x s i : Nat) : List Nat := (o.set i (x / 2 ^ s)).set (i - 1) (lb o (i - 1) ||| x * 2 ^ (32 - s) % 4294967296)

theorem shr_top (x s : Nat) (hx : x < 4294967296) (hs : s ≤ 32) : x / 2 ^ s < 2 ^ (32 - s) := by
  rw [Nat.div_lt_iff_lt_mul (Nat.two_pow_pos s), ← Nat.pow_add, Nat.sub_add_cancel hs]
  exact hx

theorem ShrInv.step0 {ys : List Nat} {s L : Nat} {o : List Nat} (h : ShrInv ys s L 0 o) (hs : s < 32) (hx : ∀ x ∈ ys, x < 4294967296) (hi : 0 < ys.length) (hL : L = ys.length) :
    ShrInv ys s L 1 (shrStep0 o (lb ys 0) s 0) := by
  have hxi := lb_lt hx 0
  have hle : lb ys 0 / 2 ^ s ≤ lb ys 0 := Nat.div_le_self _ _
  have e1 := val_set o 0 (lb ys 0 / 2 ^ s) (by rw [h.len]; omega)
  rw [h.rest 0 (Nat.le_refl _), h.val_eq] at e1
  unfold shrStep0
  refine ⟨by simp [h.len], set_lt h.lt (by omega), ?_, fun _ => ?_, fun j hj => ?_⟩
  · have := val_take_succ ys 0 hi
    simp only [List.take_zero, val, Nat.zero_div, Nat.zero_add, Nat.pow_zero, Nat.mul_one] at e1 this
    rw [this]; omega
  · rw [lb_set_same _ (by rw [h.len]; omega)]; exact shr_top _ _ hxi (by omega)
  · rw [lb_set_other _ (by omega)]; exact h.rest j (by omega)

theorem ShrInv.step {ys : List Nat} {s L i : Nat} {o : List Nat} (h : ShrInv ys s L i o) (h0 : 0 < i) (hs : s < 32) (hx : ∀ x ∈ ys, x < 4294967296) (hi : i < ys.length) (hL : L = ys.length) :
    ShrInv ys s L (i + 1) (shrStep o (lb ys i) s i) := by
  obtain ⟨i, rfl⟩ : ∃ j, i = j + 1 := ⟨i - 1, by omega⟩
  have hxi := lb_lt hx (i + 1)
  have hle : lb ys (i + 1) / 2 ^ s ≤ lb ys (i + 1) := Nat.div_le_self _ _
  have hlow := h.low h0
  rw [Nat.add_sub_cancel] at hlow
  have ho : lb o i ||| lb ys (i + 1) * 2 ^ (32 - s) % 4294967296 = lb o i + lb ys (i + 1) * 2 ^ (32 - s) % 4294967296 := by
    rw [shl_low _ _ (by omega)]; exact or_eq_add _ _ _ hlow
  have hb : lb o i + lb ys (i + 1) * 2 ^ (32 - s) % 4294967296 < 4294967296 := by
    have h1 := shl_low (lb ys (i + 1)) (32 - s) (by omega)
    have h2 : lb ys (i + 1) % 2 ^ (32 - (32 - s)) + 1 ≤ 2 ^ (32 - (32 - s)) := Nat.mod_lt _ (Nat.two_pow_pos _)
    have h3 := Nat.mul_le_mul_right (2 ^ (32 - s)) h2
    rw [← Nat.pow_add, Nat.sub_add_cancel (by omega), Nat.add_mul] at h3
    rw [h1]
    omega
  have e1 := val_set o (i + 1) (lb ys (i + 1) / 2 ^ s) (by rw [h.len]; omega)
  rw [h.rest (i + 1) (Nat.le_refl _), Nat.zero_mul, Nat.add_zero] at e1
  have e2 := val_set (o.set (i + 1) (lb ys (i + 1) / 2 ^ s)) i (lb o i + lb ys (i + 1) * 2 ^ (32 - s) % 4294967296) (by simp [h.len]; omega)
  rw [lb_set_other _ (by omega)] at e2
  unfold shrStep
  rw [Nat.add_sub_cancel, ho]
  refine ⟨by simp [h.len], set_lt (set_lt h.lt (by omega)) hb, ?_, fun _ => ?_, fun j hj => ?_⟩
  · have e3 := val_take_succ ys (i + 1) hi
    have e4 : lb ys (i + 1) * 4294967296 ^ (i + 1) = lb ys (i + 1) * 2 ^ (32 - s) * 4294967296 ^ i * 2 ^ s := by
      have : (4294967296 : Nat) = 2 ^ (32 - s) * 2 ^ s := by rw [← Nat.pow_add, Nat.sub_add_cancel (by omega)]
      rw [Nat.pow_succ]
      conv => lhs; rw [show (4294967296 : Nat) ^ i * 4294967296 = 4294967296 ^ i * (2 ^ (32 - s) * 2 ^ s) by rw [← this]]
      simp only [Nat.mul_assoc, Nat.mul_left_comm, Nat.mul_comm]
    rw [e3, e4, Nat.add_mul_div_right _ _ (Nat.two_pow_pos s), ← h.val_eq]
    have e5 : lb ys (i + 1) / 2 ^ s = lb ys (i + 1) * 2 ^ (32 - s) / 4294967296 := by
      have := shl_high (lb ys (i + 1)) (32 - s) (by omega)
      rwa [show 32 - (32 - s) = s by omega] at this
    have e6 : lb ys (i + 1) / 2 ^ s * 4294967296 ^ (i + 1) = (lb ys (i + 1) / 2 ^ s * 4294967296) * 4294967296 ^ i := by
      rw [Nat.pow_succ]; simp only [Nat.mul_assoc, Nat.mul_left_comm, Nat.mul_comm]
    have e7 : lb ys (i + 1) * 2 ^ (32 - s) = lb ys (i + 1) * 2 ^ (32 - s) % 4294967296 + lb ys (i + 1) / 2 ^ s * 4294967296 := by rw [e5]; omega
    rw [e6] at e1
    rw [Nat.add_mul] at e2
    have e8 : lb ys (i + 1) * 2 ^ (32 - s) * 4294967296 ^ i = lb ys (i + 1) * 2 ^ (32 - s) % 4294967296 * 4294967296 ^ i + lb ys (i + 1) / 2 ^ s * 4294967296 * 4294967296 ^ i := by
      rw [← Nat.add_mul, ← e7]
    omega
  · rw [Nat.add_sub_cancel, lb_set_other _ (by omega), lb_set_same _ (by rw [h.len]; omega)]; exact shr_top _ _ hxi (by omega)
  · rw [lb_set_other _ (by omega), lb_set_other _ (by omega)]; exact h.rest j (by omega)

theorem ShrInv.done {xs : List Nat} {k L i : Nat} {o : List Nat} (hx : ∀ x ∈ xs, x < 4294967296) (h : ShrInv (xs.drop (k / 32)) (k % 32) L i o) (hi : i = (xs.drop (k / 32)).length) : val o = val xs / 2 ^ k := by
  subst hi
  rw [h.val_eq, List.take_length, val_drop _ _ hx, pow32, Nat.div_div_eq_div_mul, ← Nat.pow_add, Nat.div_add_mod]

/-- A bit of a number is that bit of its limb. -/
theorem bit_limb (n k : Nat) : lb (limbs n) (k / 32) / 2 ^ (k % 32) % 2 = n / 2 ^ k % 2 := by
  rw [lb_limbs, pow32]
  have hs : k % 32 < 32 := Nat.mod_lt _ (by decide)
  generalize hm : n / 2 ^ (32 * (k / 32)) = m
  have e : (4294967296 : Nat) = 2 ^ (k % 32) * 2 ^ (32 - k % 32) := by rw [← Nat.pow_add, show k % 32 + (32 - k % 32) = 32 by omega]
  rw [e, Nat.mod_mul_right_div_self, Nat.mod_mod_of_dvd _ ⟨2 ^ (32 - k % 32 - 1), by rw [← Nat.pow_succ', show (32 - k % 32 - 1).succ = 32 - k % 32 by omega]⟩, ← hm, Nat.div_div_eq_div_mul, ← Nat.pow_add, Nat.div_add_mod]

theorem bit_out (n k : Nat) (h : (limbs n).length ≤ k / 32) : n / 2 ^ k % 2 = 0 := by
  rw [← bit_limb, lb_out h, Nat.zero_div]

/-- The length in bits is that of the limbs ahead and of the last one. -/
theorem blen_limbs (n : Nat) (h : n ≠ 0) : blen n = 32 * ((limbs n).length - 1) + blen (lb (limbs n) ((limbs n).length - 1)) := by
  have hl := limbs_last h
  have e : lb (limbs n) ((limbs n).length - 1) = n / 2 ^ (32 * ((limbs n).length - 1)) := by
    rw [lb_limbs, ← pow32]
    apply Nat.mod_eq_of_lt
    have := lt_pow_len n
    have hp : 0 < (limbs n).length := by rw [limbs_pos h]; simp
    rw [Nat.div_lt_iff_lt_mul (Nat.pow_pos (by decide)), ← Nat.pow_succ', show ((limbs n).length - 1).succ = (limbs n).length by omega]
    exact this
  rw [e]
  apply blen_shift
  rw [← e]
  exact hl

/-- A number below 2^64 as one; and whether it is below. -/
def lowN (n : Nat) : Nat := if n < 18446744073709551616 then n else 0
def lowB (n : Nat) : Bool := decide (n < 18446744073709551616)
theorem lt_of_len_le {n k : Nat} (h : (limbs n).length ≤ k) : n < 4294967296 ^ k :=
  Nat.lt_of_lt_of_le (lt_pow_len n) (Nat.pow_le_pow_right (by decide) h)
theorem le_of_lt_len {n k : Nat} (h : k < (limbs n).length) : 4294967296 ^ k ≤ n := by
  rcases Nat.lt_or_ge n (4294967296 ^ k) with h1 | h1
  · have := len_le_of_lt h1; omega
  · exact h1
theorem lowB_of_le {n : Nat} (h : (limbs n).length ≤ 2) : lowB n = true := by
  have := lt_of_len_le h
  exact decide_eq_true (by omega)
theorem lowN_of_le {n : Nat} (h : (limbs n).length ≤ 2) : lowN n = n := by
  have := lt_of_len_le h
  exact if_pos (by omega)
theorem lowB_of_gt {n : Nat} (h : 2 < (limbs n).length) : lowB n = false := by
  have := le_of_lt_len h
  exact decide_eq_false (by omega)
theorem lowN_of_gt {n : Nat} (h : 2 < (limbs n).length) : lowN n = 0 := by
  have := le_of_lt_len h
  exact if_neg (by omega)
theorem drop_lt {xs : List Nat} (q : Nat) (hx : ∀ x ∈ xs, x < 4294967296) : ∀ x ∈ xs.drop q, x < 4294967296 := fun x h => hx x (List.mem_of_mem_drop h)
end Go.Proofs.YtigdflfhepelaaaGreatDoor
/- Digits to a base, the highest first: plain lists and naturals. -/
namespace Go.Proofs.YtigdflfhepelaaaGreatDoor
set_option linter.unusedVariables false
set_option maxHeartbeats 400000

theorem rev_ind {P : List Nat → Prop} (h0 : P []) (h1 : ∀ ds d, P ds → P (ds ++ [d])) (ds : List Nat) : P ds := by
  have : ∀ l : List Nat, P l.reverse := fun l => by
    induction l with
    | nil => exact h0
    | cons x l ih => rw [List.reverse_cons]; exact h1 _ _ ih
  have h := this ds.reverse
  rwa [List.reverse_reverse] at h
/-- What digits are worth. -/
def bval (b : Nat) (ds : List Nat) : Nat := ds.foldl (fun a d => a * b + d) 0
theorem bval_from (b : Nat) (ds : List Nat) (a : Nat) : ds.foldl (fun a d => a * b + d) a = a * b ^ ds.length + bval b ds := by
  induction ds generalizing a with
  | nil => simp [bval]
  | cons d ds ih =>
    have e : bval b (d :: ds) = (0 * b + d) * b ^ ds.length + bval b ds := ih (0 * b + d)
    rw [List.foldl_cons, ih, e, List.length_cons, Nat.pow_succ, Nat.add_mul, Nat.zero_mul, Nat.zero_add, Nat.mul_assoc, Nat.mul_comm b (b ^ ds.length), Nat.add_assoc]
theorem bval_nil (b : Nat) : bval b [] = 0 := rfl
theorem bval_append (b : Nat) (xs ys : List Nat) : bval b (xs ++ ys) = bval b xs * b ^ ys.length + bval b ys := by
  rw [bval, List.foldl_append, bval_from]; rfl
theorem bval_push (b : Nat) (xs : List Nat) (d : Nat) : bval b (xs ++ [d]) = bval b xs * b + d := by
  rw [bval_append]; simp [bval]
theorem bval_lt (b : Nat) (ds : List Nat) (h : ∀ d ∈ ds, d < b) : bval b ds < b ^ ds.length := by
  revert h
  refine rev_ind (P := fun ds => (∀ d ∈ ds, d < b) → bval b ds < b ^ ds.length) (fun _ => by simp [bval]) (fun ds d ih h => ?_) ds
  · have h1 := ih fun x hx => h x (by simp [hx])
    have h2 := h d (by simp)
    rw [bval_push, List.length_append, List.length_singleton, Nat.pow_succ]
    have h3 := Nat.mul_le_mul_right b (show bval b ds + 1 ≤ b ^ ds.length from h1)
    rw [Nat.add_mul, Nat.one_mul] at h3
    omega
theorem bval_zeros (b k : Nat) : bval b (List.replicate k 0) = 0 := by
  induction k with
  | zero => rfl
  | succ k ih => rw [List.replicate_succ', bval_push, ih]; simp

/-- The last k digits of n, with noughts ahead. -/
def bdig (b n : Nat) : Nat → List Nat
  | 0 => []
  | k + 1 => bdig b (n / b) k ++ [n % b]
theorem bdig_len (b n k : Nat) : (bdig b n k).length = k := by
  induction k generalizing n with
  | zero => rfl
  | succ k ih => rw [bdig, List.length_append, ih]; rfl
theorem bdig_lt (b n k : Nat) (hb : 0 < b) : ∀ d ∈ bdig b n k, d < b := by
  induction k generalizing n with
  | zero => intro d h; simp [bdig] at h
  | succ k ih =>
    intro d h
    rw [bdig, List.mem_append] at h
    rcases h with h | h
    · exact ih _ d h
    · simp at h; rw [h]; exact Nat.mod_lt _ hb
theorem bval_bdig (b n k : Nat) : bval b (bdig b n k) = n % b ^ k := by
  induction k generalizing n with
  | zero => rw [Nat.pow_zero, Nat.mod_one]; rfl
  | succ k ih =>
    rw [bdig, bval_push, ih, Nat.pow_succ, Nat.mul_comm (b ^ k) b, Nat.mod_mul, Nat.mul_comm, Nat.add_comm]
theorem bdig_add (b n j k : Nat) : bdig b n (j + k) = bdig b (n / b ^ k) j ++ bdig b (n % b ^ k) k := by
  induction k generalizing n with
  | zero => rw [Nat.pow_zero, Nat.div_one]; simp [bdig]
  | succ k ih =>
    rw [← Nat.add_assoc, bdig, bdig, ih, Nat.pow_succ, Nat.mul_comm (b ^ k) b, Nat.div_div_eq_div_mul, List.append_assoc]
    have h1 : n % (b * b ^ k) / b = n / b % b ^ k := by
      rw [Nat.mod_mul]
      rcases Nat.eq_zero_or_pos b with h | h
      · subst h; simp
      · rw [Nat.add_mul_div_left _ _ h, Nat.div_eq_of_lt (Nat.mod_lt _ h), Nat.zero_add]
    have h2 : n % (b * b ^ k) % b = n % b := Nat.mod_mul_right_mod _ _ _
    rw [h1, h2]
theorem bdig_bval (b : Nat) (ds : List Nat) (h : ∀ d ∈ ds, d < b) : bdig b (bval b ds) ds.length = ds := by
  revert h
  refine rev_ind (P := fun ds => (∀ d ∈ ds, d < b) → bdig b (bval b ds) ds.length = ds) (fun _ => rfl) (fun ds d ih h => ?_) ds
  · have h1 := ih fun x hx => h x (by simp [hx])
    have h2 := h d (by simp)
    have e1 : (bval b ds * b + d) % b = d := by rw [Nat.mul_comm, Nat.mul_add_mod, Nat.mod_eq_of_lt h2]
    have e2 : (bval b ds * b + d) / b = bval b ds := by rw [Nat.mul_comm, Nat.mul_add_div (by omega), Nat.div_eq_of_lt h2, Nat.add_zero]
    rw [List.length_append, List.length_singleton, bdig, bval_push, e1, e2, h1]
end Go.Proofs.YtigdflfhepelaaaGreatDoor
/- Digits without noughts ahead; how many there are. -/
namespace Go.Proofs.YtigdflfhepelaaaGreatDoor
set_option linter.unusedVariables false
set_option maxHeartbeats 400000

/-- Without noughts ahead. -/
def strip0 : List Nat → List Nat
  | [] => []
  | d :: ds => if d = 0 then strip0 ds else d :: ds
theorem strip0_push (ds : List Nat) (d : Nat) : strip0 (ds ++ [d]) = if strip0 ds = [] then (if d = 0 then [] else [d]) else strip0 ds ++ [d] := by
  induction ds with
  | nil => simp [strip0]
  | cons e ds ih =>
    rw [List.cons_append, strip0, strip0]
    by_cases h : e = 0
    · rw [if_pos h, if_pos h]; exact ih
    · rw [if_neg h, if_neg h]; simp
theorem strip0_zeros (k : Nat) (ds : List Nat) : strip0 (List.replicate k 0 ++ ds) = strip0 ds := by
  induction k with
  | zero => rfl
  | succ k ih => rw [List.replicate_succ, List.cons_append, strip0, if_pos rfl]; exact ih
theorem strip0_split (ds : List Nat) : ∃ k, ds = List.replicate k 0 ++ strip0 ds := by
  induction ds with
  | nil => exact ⟨0, rfl⟩
  | cons d ds ih =>
    obtain ⟨k, hk⟩ := ih
    rw [strip0]
    by_cases h : d = 0
    · rw [if_pos h, h]
      exact ⟨k + 1, by rw [List.replicate_succ, List.cons_append, ← hk]⟩
    · rw [if_neg h]; exact ⟨0, rfl⟩
theorem bval_strip0 (b : Nat) (ds : List Nat) : bval b (strip0 ds) = bval b ds := by
  obtain ⟨k, hk⟩ := strip0_split ds
  conv => rhs; rw [hk, bval_append, bval_zeros, Nat.zero_mul, Nat.zero_add]

/-- The digits of a number, none of nought. -/
def nd (b a : Nat) : List Nat := if h : a = 0 ∨ b < 2 then [] else nd b (a / b) ++ [a % b]
termination_by a
decreasing_by exact Nat.div_lt_self (by omega) (by omega)
theorem nd_zero (b : Nat) : nd b 0 = [] := by rw [nd]; simp
theorem nd_pos {b a : Nat} (ha : a ≠ 0) (hb : 2 ≤ b) : nd b a = nd b (a / b) ++ [a % b] := by
  rw [nd, dif_neg (by omega)]
theorem nd_ne {b a : Nat} (ha : a ≠ 0) (hb : 2 ≤ b) : nd b a ≠ [] := by rw [nd_pos ha hb]; simp
theorem strip0_bdig (b : Nat) (hb : 2 ≤ b) (k a : Nat) (h : a < b ^ k) : strip0 (bdig b a k) = nd b a := by
  induction k generalizing a with
  | zero =>
    have : a = 0 := by rw [Nat.pow_zero] at h; omega
    subst this
    rw [nd_zero]; rfl
  | succ k ih =>
    have h1 : a / b < b ^ k := Nat.div_lt_of_lt_mul (by rw [Nat.mul_comm, ← Nat.pow_succ]; exact h)
    rw [bdig, strip0_push, ih _ h1]
    by_cases h0 : a = 0
    · subst h0
      rw [Nat.zero_div, nd_zero, if_pos rfl, Nat.zero_mod, if_pos rfl]
    · rw [nd_pos h0 hb]
      by_cases h2 : a / b = 0
      · rw [h2, nd_zero, if_pos rfl, if_neg, List.nil_append]
        have := Nat.div_add_mod a b
        rw [h2, Nat.mul_zero, Nat.zero_add] at this
        rw [this]; exact h0
      · rw [if_neg (nd_ne h2 hb)]
theorem bval_nd (b : Nat) (hb : 2 ≤ b) (a : Nat) : bval b (nd b a) = a := by
  have h : a < b ^ a := Nat.lt_pow_self (by omega)
  rw [← strip0_bdig b hb a a h, bval_strip0, bval_bdig, Nat.mod_eq_of_lt h]
theorem nd_lt (b : Nat) (hb : 2 ≤ b) (a : Nat) : ∀ d ∈ nd b a, d < b := by
  have h : a < b ^ a := Nat.lt_pow_self (by omega)
  rw [← strip0_bdig b hb a a h]
  intro d hd
  obtain ⟨k, hk⟩ := strip0_split (bdig b a a)
  exact bdig_lt b a a (by omega) d (by rw [hk]; exact List.mem_append_right _ hd)
theorem lt_pow_nd (b : Nat) (hb : 2 ≤ b) (a : Nat) : a < b ^ (nd b a).length := by
  have := bval_lt b (nd b a) (nd_lt b hb a)
  rwa [bval_nd b hb] at this
theorem nd_head (b : Nat) (hb : 2 ≤ b) (a : Nat) : strip0 (nd b a) = nd b a := by
  have h : a < b ^ a := Nat.lt_pow_self (by omega)
  have e := strip0_bdig b hb (nd b a).length a (lt_pow_nd b hb a)
  have e2 : bdig b a (nd b a).length = nd b a := by
    have := bdig_bval b (nd b a) (nd_lt b hb a)
    rwa [bval_nd b hb] at this
  rwa [e2] at e
theorem pow_nd_le (b : Nat) (hb : 2 ≤ b) (a k : Nat) (h : a < b ^ k) : (nd b a).length ≤ k := by
  rw [← strip0_bdig b hb k a h]
  obtain ⟨j, hj⟩ := strip0_split (bdig b a k)
  have := congrArg List.length hj
  rw [bdig_len, List.length_append, List.length_replicate] at this
  omega
/-- The digits of what is read are what was read, without noughts ahead. -/
theorem nd_bval (b : Nat) (hb : 2 ≤ b) (ds : List Nat) (h : ∀ d ∈ ds, d < b) : nd b (bval b ds) = strip0 ds := by
  have h1 := strip0_bdig b hb ds.length (bval b ds) (bval_lt b ds h)
  rwa [bdig_bval b ds h, eq_comm] at h1
/-- Where the number is cut: the digits ahead, and all that are behind. -/
theorem nd_split (b : Nat) (hb : 2 ≤ b) (a k : Nat) (h : b ^ k ≤ a) : nd b a = nd b (a / b ^ k) ++ bdig b (a % b ^ k) k := by
  have hp : 0 < b ^ k := Nat.pow_pos (by omega)
  have hq : a / b ^ k ≠ 0 := by
    have := Nat.div_pos h hp
    omega
  obtain ⟨j, hj⟩ : ∃ j, (nd b (a / b ^ k)).length = j := ⟨_, rfl⟩
  have h1 := lt_pow_nd b hb (a / b ^ k)
  rw [hj] at h1
  have h2 : a < b ^ (j + k) := by
    rw [Nat.pow_add]
    exact (Nat.div_lt_iff_lt_mul hp).1 h1
  rw [← strip0_bdig b hb (j + k) a h2, bdig_add]
  have h3 : bdig b (a / b ^ k) j = nd b (a / b ^ k) := by
    have := bdig_bval b (nd b (a / b ^ k)) (nd_lt b hb _)
    rwa [bval_nd b hb, hj] at this
  rw [h3]
  have h4 := nd_head b hb (a / b ^ k)
  have h5 := nd_ne hq hb
  cases hn : nd b (a / b ^ k) with
  | nil => exact absurd hn h5
  | cons d ds =>
    rw [hn, strip0] at h4
    by_cases h0 : d = 0
    · rw [if_pos h0] at h4
      obtain ⟨i, hi⟩ := strip0_split ds
      have := congrArg List.length hi
      rw [h4, List.length_append, List.length_cons] at this
      omega
    · rw [List.cons_append, strip0, if_neg h0]
end Go.Proofs.YtigdflfhepelaaaGreatDoor
/- Digits as bytes, and back; chunks of digits; the powers that are kept. -/
namespace Go.Proofs.YtigdflfhepelaaaGreatDoor
set_option linter.unusedVariables false
set_option maxHeartbeats 400000

/-- A digit's byte. -/
def digB (d : Nat) : Nat := if d < 10 then 48 + d else 87 + d
/-- What a byte is worth. -/
def worB (c : Nat) : Nat := if 48 ≤ c ∧ c ≤ 57 then c - 48 else if 97 ≤ c ∧ c ≤ 122 then c - 97 + 10 else 99
theorem worB_digB {d : Nat} (h : d < 36) : worB (digB d) = d := by
  unfold worB digB
  split
  · rw [if_pos (by omega)]; omega
  · rw [if_neg (by omega), if_pos (by omega)]; omega
theorem digB_worB {c : Nat} (h : worB c < 36) : digB (worB c) = c := by
  unfold worB at h ⊢
  unfold digB
  by_cases h1 : 48 ≤ c ∧ c ≤ 57
  · rw [if_pos h1, if_pos (by omega)]; omega
  · rw [if_neg h1] at h ⊢
    by_cases h2 : 97 ≤ c ∧ c ≤ 122
    · rw [if_pos h2, if_neg (by omega)]; omega
    · rw [if_neg h2] at h; omega
theorem digB_lt {d : Nat} (h : d < 36) : digB d < 128 := by unfold digB; split <;> omega
theorem digB_zero {d : Nat} : digB d = 48 ↔ d = 0 := by unfold digB; split <;> omega
theorem worB_le (c : Nat) : worB c ≤ 99 := by unfold worB; split <;> (try split) <;> omega

/-- A base, and the greatest power of it that a limb holds. -/
structure Sc (b n p : Nat) : Prop where
  b2 : 2 ≤ b
  b36 : b ≤ 36
  n1 : 1 ≤ n
  pw : p = b ^ n
  fit : p < 4294967296
  most : 4294967296 ≤ p * b
theorem Sc.n32 {b n p : Nat} (h : Sc b n p) : n ≤ 31 := by
  rcases Nat.lt_or_ge n 32 with h1 | h1
  · omega
  · exfalso
    have h2 : 2 ^ 32 ≤ 2 ^ n := Nat.pow_le_pow_right (by decide) h1
    have h3 : 2 ^ n ≤ b ^ n := Nat.pow_le_pow_left h.b2 n
    rw [← h.pw] at h3
    have h4 : (2 : Nat) ^ 32 = 4294967296 := rfl
    have h5 := h.fit
    omega
theorem Sc.p2 {b n p : Nat} (h : Sc b n p) : 2 ≤ p := by
  rw [h.pw]
  have h1 : b ^ 1 ≤ b ^ n := Nat.pow_le_pow_right (by have := h.b2; omega) h.n1
  rw [Nat.pow_one] at h1
  have := h.b2
  omega
/-- The loop that finds it. -/
structure ScI (b n p : Nat) : Prop where
  n1 : 1 ≤ n
  pw : p = b ^ n
  fit : p < 4294967296
theorem ScI.step {b n p : Nat} (h : ScI b n p) (hlt : p * b < 4294967296) : ScI b (n + 1) (p * b) := ⟨by omega, by rw [h.pw, Nat.pow_succ], hlt⟩
theorem ScI.done {b n p : Nat} (h : ScI b n p) (h2 : 2 ≤ b) (h36 : b ≤ 36) (hge : 4294967296 ≤ p * b) : Sc b n p := ⟨h2, h36, h.n1, h.pw, h.fit, hge⟩
theorem ScI.n32 {b n p : Nat} (h : ScI b n p) (h2 : 2 ≤ b) : n ≤ 31 := by
  rcases Nat.lt_or_ge n 32 with h1 | h1
  · omega
  · exfalso
    have h2 : 2 ^ 32 ≤ 2 ^ n := Nat.pow_le_pow_right (by decide) h1
    have h3 : 2 ^ n ≤ b ^ n := Nat.pow_le_pow_left (by omega) n
    rw [← h.pw] at h3
    have h4 : (2 : Nat) ^ 32 = 4294967296 := rfl
    have h5 := h.fit
    omega

/-- One chunk more is written: the digits of a, j + n of them. -/
theorem chunk_step (b n a j : Nat) : bdig b a (j + n) = bdig b (a / b ^ n) j ++ bdig b (a % b ^ n) n := bdig_add b a j n
/-- A digit of a chunk is told from behind: r is what is left of it. -/
theorem bdig_one (b r k : Nat) : bdig b r (k + 1) = bdig b (r / b) k ++ [r % b] := rfl

/-- The i-th power that is kept. -/
def kp (b n i : Nat) : Nat := b ^ (16 * n * 2 ^ i)
theorem kp_zero (b n p : Nat) (h : p = b ^ n) : kp b n 0 = p ^ 16 := by
  unfold kp; rw [Nat.pow_zero, Nat.mul_one, h, ← Nat.pow_mul, Nat.mul_comm]
theorem kp_succ (b n i : Nat) : kp b n (i + 1) = kp b n i * kp b n i := by
  unfold kp; rw [← Nat.pow_add, Nat.pow_succ, ← Nat.mul_assoc, Nat.mul_two]
/-- A number below the i-th power, split at the one below it. -/
theorem kp_split (b n i a : Nat) (hb : 2 ≤ b) (h : a < kp b n (i + 1)) : a / kp b n i < kp b n i ∧ bdig b a (16 * n * 2 ^ (i + 1)) = bdig b (a / kp b n i) (16 * n * 2 ^ i) ++ bdig b (a % kp b n i) (16 * n * 2 ^ i) := by
  refine ⟨Nat.div_lt_of_lt_mul (by rw [← kp_succ]; exact h), ?_⟩
  rw [show 16 * n * 2 ^ (i + 1) = 16 * n * 2 ^ i + 16 * n * 2 ^ i by rw [Nat.pow_succ, ← Nat.mul_assoc, Nat.mul_two], bdig_add]
  rfl
end Go.Proofs.YtigdflfhepelaaaGreatDoor
/- Digits: their order, their places, bits of them; powers. -/
namespace Go.Proofs.YtigdflfhepelaaaGreatDoor
set_option linter.unusedVariables false
set_option maxHeartbeats 400000

theorem bval_cons (b d : Nat) (ds : List Nat) : bval b (d :: ds) = d * b ^ ds.length + bval b ds := by
  rw [show d :: ds = [d] ++ ds from rfl, bval_append]
  simp [bval]

/-- The order of two lists of one length. -/
def dl : List Nat → List Nat → Bool
  | d :: ds, e :: es => decide (d < e) || (decide (d = e) && dl ds es)
  | _, _ => false
theorem bval_dl (b : Nat) : ∀ (ds es : List Nat), ds.length = es.length → (∀ d ∈ ds, d < b) → (∀ e ∈ es, e < b) → (bval b ds < bval b es ↔ dl ds es = true)
  | [], [], _, _, _ => by simp [bval, dl]
  | d :: ds, e :: es, hl, h1, h2 => by
    have hl2 : ds.length = es.length := by simpa using hl
    have ih := bval_dl b ds es hl2 (fun x hx => h1 x (by simp [hx])) (fun x hx => h2 x (by simp [hx]))
    have b1 := bval_lt b ds (fun x hx => h1 x (by simp [hx]))
    have b2 := bval_lt b es (fun x hx => h2 x (by simp [hx]))
    rw [bval_cons, bval_cons, dl, Bool.or_eq_true, Bool.and_eq_true, decide_eq_true_eq, decide_eq_true_eq, ← ih, hl2]
    rw [hl2] at b1
    generalize b ^ es.length = P at *
    rcases Nat.lt_trichotomy d e with h | h | h
    · have : (d + 1) * P ≤ e * P := Nat.mul_le_mul_right P h
      rw [Nat.add_mul] at this
      constructor
      · intro _; exact .inl h
      · intro _; omega
    · subst h
      constructor
      · intro h3; exact .inr ⟨rfl, by omega⟩
      · intro h3
        rcases h3 with h3 | h3
        · omega
        · omega
    · have : (e + 1) * P ≤ d * P := Nat.mul_le_mul_right P h
      rw [Nat.add_mul] at this
      constructor
      · intro _; omega
      · intro h3
        rcases h3 with h3 | h3
        · omega
        · omega

/-- The digits that are written: one nought for nought. -/
def dt (b a : Nat) : List Nat := if a = 0 then [0] else nd b a
theorem dt_zero (b : Nat) : dt b 0 = [0] := rfl
theorem dt_pos {b a : Nat} (h : a ≠ 0) : dt b a = nd b a := if_neg h
theorem bval_dt (b : Nat) (hb : 2 ≤ b) (a : Nat) : bval b (dt b a) = a := by
  unfold dt
  split
  · rename_i h; subst h; simp [bval]
  · exact bval_nd b hb a
theorem dt_lt (b : Nat) (hb : 2 ≤ b) (a : Nat) : ∀ d ∈ dt b a, d < b := by
  unfold dt
  split
  · intro d hd; simp at hd; omega
  · exact nd_lt b hb a
theorem dt_len1 (b : Nat) (hb : 2 ≤ b) (a : Nat) : 1 ≤ (dt b a).length := by
  unfold dt
  split
  · simp
  · rename_i h
    have := nd_ne h hb
    cases e : nd b a with
    | nil => exact absurd e this
    | cons x xs => simp
theorem dt_len_le (b : Nat) (hb : 2 ≤ b) (a k : Nat) (hk : 1 ≤ k) (h : a < b ^ k) : (dt b a).length ≤ k := by
  unfold dt
  split
  · simpa using hk
  · exact pow_nd_le b hb a k h
theorem lt_pow_dt (b : Nat) (hb : 2 ≤ b) (a : Nat) : a < b ^ (dt b a).length := by
  have := bval_lt b (dt b a) (dt_lt b hb a)
  rwa [bval_dt b hb] at this
theorem dt_order (b : Nat) (hb : 2 ≤ b) (a c : Nat) : a < c ↔ (dt b a).length < (dt b c).length ∨ (dt b a).length = (dt b c).length ∧ dl (dt b a) (dt b c) = true := by
  constructor
  · intro h
    have h1 := dt_len_le b hb a _ (dt_len1 b hb c) (Nat.lt_trans h (lt_pow_dt b hb c))
    rcases Nat.lt_or_ge (dt b a).length (dt b c).length with h2 | h2
    · exact .inl h2
    · have h3 : (dt b a).length = (dt b c).length := Nat.le_antisymm h1 h2
      refine .inr ⟨h3, (bval_dl b _ _ h3 (dt_lt b hb a) (dt_lt b hb c)).1 ?_⟩
      rw [bval_dt b hb, bval_dt b hb]; exact h
  · intro h
    rcases h with h | ⟨h, h2⟩
    · rcases Nat.lt_or_ge a c with h1 | h1
      · exact h1
      · have := dt_len_le b hb c _ (dt_len1 b hb a) (Nat.lt_of_le_of_lt h1 (lt_pow_dt b hb a))
        omega
    · have := (bval_dl b _ _ h (dt_lt b hb a) (dt_lt b hb c)).2 h2
      rwa [bval_dt b hb, bval_dt b hb] at this
/-- What stands at the front. -/
theorem dt_head (b : Nat) (hb : 2 ≤ b) (a d : Nat) (ds : List Nat) (h : dt b a = d :: ds) : d = 0 ↔ a = 0 := by
  constructor
  · intro e
    subst e
    rcases Nat.eq_zero_or_pos a with h1 | h1
    · exact h1
    · exfalso
      rw [dt_pos (by omega)] at h
      have := nd_head b hb a
      rw [h] at this
      have hl := congrArg List.length this
      obtain ⟨k, hk⟩ := strip0_split ds
      have hk2 := congrArg List.length hk
      rw [strip0, if_pos rfl] at hl
      rw [List.length_append, List.length_replicate] at hk2
      rw [List.length_cons] at hl
      omega
  · intro e
    subst e
    rw [dt_zero] at h
    simpa using (List.cons.inj h).1.symm

/-- The digit at a place, from the end. -/
theorem bdig_at (b : Nat) : ∀ (k a i : Nat), i < k → lb (bdig b a k) (k - 1 - i) = a / b ^ i % b
  | k + 1, a, 0, _ => by
    rw [bdig, Nat.pow_zero, Nat.div_one]
    unfold lb
    rw [List.getElem?_append_right (by rw [bdig_len]; omega), bdig_len]
    simp
  | k + 1, a, i + 1, h => by
    have ih := bdig_at b k (a / b) i (by omega)
    rw [bdig]
    unfold lb at *
    rw [List.getElem?_append_left (by rw [bdig_len]; omega), show k + 1 - 1 - (i + 1) = k - 1 - i by omega, ih, Nat.div_div_eq_div_mul, Nat.pow_succ, Nat.mul_comm]
theorem dt_bdig (b : Nat) (hb : 2 ≤ b) (a : Nat) : dt b a = bdig b a (dt b a).length := by
  have := bdig_bval b (dt b a) (dt_lt b hb a)
  rw [bval_dt b hb] at this
  exact this.symm
theorem dt_at (b : Nat) (hb : 2 ≤ b) (a i : Nat) (h : i < (dt b a).length) : lb (dt b a) ((dt b a).length - 1 - i) = a / b ^ i % b := by
  have e := dt_bdig b hb a
  have := bdig_at b (dt b a).length a i h
  rwa [← e] at this
theorem dt_past (b : Nat) (hb : 2 ≤ b) (a i : Nat) (h : (dt b a).length ≤ i) : a / b ^ i = 0 :=
  Nat.div_eq_of_lt (Nat.lt_of_lt_of_le (lt_pow_dt b hb a) (Nat.pow_le_pow_right (by omega) h))
/-- A bit of a digit is a bit of the number. -/
theorem bit_digit (w a i j : Nat) (hj : j < w) : a / (2 ^ w) ^ i % 2 ^ w / 2 ^ j % 2 = a / 2 ^ (w * i + j) % 2 := by
  rw [← Nat.pow_mul, Nat.pow_add, ← Nat.div_div_eq_div_mul]
  generalize a / 2 ^ (w * i) = x
  obtain ⟨c, rfl⟩ : ∃ c, w = j + (c + 1) := ⟨w - j - 1, by omega⟩
  rw [Nat.pow_add 2 j, Nat.mod_mul_right_div_self, Nat.pow_succ, Nat.mod_mod_of_dvd _ (Nat.dvd_mul_left 2 _)]

/-- Powers of the base, and what is one less. -/
theorem bval_one_zeros (b n : Nat) : bval b (1 :: List.replicate n 0) = b ^ n := by
  rw [bval_cons, bval_zeros, List.length_replicate]; omega
theorem bval_nines (b n : Nat) (hb : 2 ≤ b) : bval b (List.replicate n (b - 1)) + 1 = b ^ n := by
  induction n with
  | zero => simp [bval]
  | succ n ih =>
    obtain ⟨c, rfl⟩ : ∃ c, b = c + 1 := ⟨b - 1, by omega⟩
    rw [List.replicate_succ', bval_push, Nat.pow_succ, ← ih, Nat.add_mul]
    omega
theorem dt_pow (b n : Nat) (hb : 2 ≤ b) : dt b (b ^ n) = 1 :: List.replicate n 0 := by
  have h : b ^ n ≠ 0 := by have := Nat.pow_pos (n := n) (show 0 < b by omega); omega
  rw [dt_pos h]
  have := nd_bval b hb (1 :: List.replicate n 0) (fun d hd => by
    rcases List.mem_cons.1 hd with e | e
    · omega
    · have := List.eq_of_mem_replicate e; omega)
  rw [bval_one_zeros] at this
  rw [this, strip0, if_neg (by omega)]
theorem dt_nines (b n : Nat) (hb : 2 ≤ b) (hn : n ≠ 0) : dt b (b ^ n - 1) = List.replicate n (b - 1) := by
  have h1 := bval_nines b n hb
  have h2 : bval b (List.replicate n (b - 1)) = b ^ n - 1 := by omega
  have h3 : b ^ n - 1 ≠ 0 := by
    have : b ^ 1 ≤ b ^ n := Nat.pow_le_pow_right (by omega) (by omega)
    rw [Nat.pow_one] at this; omega
  rw [dt_pos h3, ← h2, nd_bval b hb _ (fun d hd => by have := List.eq_of_mem_replicate hd; omega)]
  obtain ⟨k, rfl⟩ : ∃ k, n = k + 1 := ⟨n - 1, by omega⟩
  rw [List.replicate_succ, strip0, if_neg (by omega)]
/-- What is read, and written again, is without the noughts ahead. -/
theorem dt_bval (b : Nat) (hb : 2 ≤ b) (ds : List Nat) (h : ∀ d ∈ ds, d < b) : dt b (bval b ds) = if strip0 ds = [] then [0] else strip0 ds := by
  have e := nd_bval b hb ds h
  by_cases h0 : bval b ds = 0
  · rw [h0, dt_zero]
    rw [h0, nd_zero] at e
    rw [if_pos e.symm]
  · rw [dt_pos h0, e, if_neg (by rw [← e]; exact nd_ne h0 hb)]
end Go.Proofs.YtigdflfhepelaaaGreatDoor
/- Texts: digits as bytes of a string. -/
namespace Go.Proofs.YtigdflfhepelaaaGreatDoor
set_option linter.unusedVariables false
set_option maxHeartbeats 400000

/-- The bytes of digits. -/
def byteL (ds : List Nat) : List UInt8 := ds.map fun d => UInt8.ofNat (digB d)
/-- The text of digits. -/
def strD (ds : List Nat) : ByteArray := ⟨(byteL ds).toArray⟩
/-- What the bytes of a text are worth. -/
def worL (s : ByteArray) : List Nat := s.data.toList.map fun c => worB c.toNat
theorem byteL_len (ds : List Nat) : (byteL ds).length = ds.length := by simp [byteL]
theorem byteL_app (xs ys : List Nat) : byteL (xs ++ ys) = byteL xs ++ byteL ys := by simp [byteL]
theorem strD_data (ds : List Nat) : (strD ds).data.toList = byteL ds := rfl
theorem strD_size (ds : List Nat) : (strD ds).size = ds.length := by
  show (byteL ds).toArray.size = ds.length
  rw [List.size_toArray, byteL_len]
theorem strD_app (xs ys : List Nat) : strD xs ++ strD ys = strD (xs ++ ys) := by
  apply ByteArray.ext
  apply Array.toList_inj.1
  rw [strD_data, byteL_app, ByteArray.data_append, Array.toList_append, strD_data, strD_data]
theorem digB_nat {d : Nat} (h : d < 36) : (UInt8.ofNat (digB d)).toNat = digB d := by
  have := digB_lt h
  rw [UInt8.toNat_ofNat', Nat.mod_eq_of_lt (by omega)]
theorem worL_len (s : ByteArray) : (worL s).length = s.size := by simp [worL]
theorem worL_strD (ds : List Nat) (h : ∀ d ∈ ds, d < 36) : worL (strD ds) = ds := by
  unfold worL
  rw [strD_data, byteL, List.map_map]
  conv => rhs; rw [← List.map_id ds]
  apply List.map_congr_left
  intro d hd
  show worB (UInt8.ofNat (digB d)).toNat = d
  rw [digB_nat (h d hd), worB_digB (h d hd)]
/-- A text all of whose bytes are digits is the text of these. -/
theorem strD_worL (s : ByteArray) (h : ∀ d ∈ worL s, d < 36) : strD (worL s) = s := by
  apply ByteArray.ext
  apply Array.toList_inj.1
  rw [strD_data]
  unfold byteL
  unfold worL at h ⊢
  rw [List.map_map]
  conv => rhs; rw [← List.map_id s.data.toList]
  apply List.map_congr_left
  intro c hc
  show UInt8.ofNat (digB (worB c.toNat)) = c
  rw [digB_worB (h _ (List.mem_map_of_mem (f := fun c => worB c.toNat) hc)), UInt8.ofNat_toNat]
theorem strD_inj (xs ys : List Nat) (hx : ∀ d ∈ xs, d < 36) (hy : ∀ d ∈ ys, d < 36) : strD xs = strD ys ↔ xs = ys := by
  constructor
  · intro h
    rw [← worL_strD xs hx, ← worL_strD ys hy, h]
  · rintro rfl; rfl
/-- The noughts ahead fall. -/
theorem trim_byteL (ds : List Nat) (h : ∀ d ∈ ds, d < 36) : Lib.trimLeftS (byteL ds) [48] = byteL (strip0 ds) := by
  induction ds with
  | nil => rfl
  | cons d ds ih =>
    have h0 := h d (by simp)
    have e := digB_nat h0
    rw [strip0]
    unfold Lib.trimLeftS at ih ⊢
    show List.dropWhile _ (UInt8.ofNat (digB d) :: byteL ds) = _
    rw [List.dropWhile_cons]
    by_cases hd : d = 0
    · subst hd
      rw [if_pos (by decide), if_pos rfl]
      exact ih fun x hx => h x (by simp [hx])
    · have hne : ¬ (UInt8.ofNat (digB d) = 48) := by
        intro e2
        rw [e2] at e
        have := digB_zero.1 (show digB d = 48 by rw [← e]; rfl)
        exact hd this
      rw [if_neg (by simp [hne]), if_neg hd]
      rfl
/-- Texts of one length stand as the digits do. -/
theorem cmp_byteL (xs ys : List Nat) (hl : xs.length = ys.length) (hx : ∀ d ∈ xs, d < 36) (hy : ∀ d ∈ ys, d < 36) : Lib.compareBytes (byteL xs) (byteL ys) < 0 ↔ dl xs ys = true := by
  induction xs generalizing ys with
  | nil =>
    cases ys with
    | nil => simp [byteL, Lib.compareBytes, dl]
    | cons y ys => simp at hl
  | cons x xs ih =>
    cases ys with
    | nil => simp at hl
    | cons y ys =>
      have ih2 := ih ys (by simpa using hl) (fun d hd => hx d (by simp [hd])) (fun d hd => hy d (by simp [hd]))
      have bx := hx x (by simp)
      have b_y := hy y (by simp)
      have e1 := digB_nat bx
      have e2 := digB_nat b_y
      have hmono : ∀ {p q : Nat}, p < 36 → q < 36 → (digB p < digB q ↔ p < q) := by
        intro p q hp hq
        unfold digB
        split <;> split <;> omega
      show Lib.compareBytes (UInt8.ofNat (digB x) :: byteL xs) (UInt8.ofNat (digB y) :: byteL ys) < 0 ↔ _
      rw [Lib.compareBytes, dl, Bool.or_eq_true, Bool.and_eq_true, decide_eq_true_eq, decide_eq_true_eq]
      have k1 : UInt8.ofNat (digB x) < UInt8.ofNat (digB y) ↔ x < y := by rw [UInt8.lt_iff_toNat_lt, e1, e2]; exact hmono bx b_y
      have k2 : UInt8.ofNat (digB y) < UInt8.ofNat (digB x) ↔ y < x := by rw [UInt8.lt_iff_toNat_lt, e1, e2]; exact hmono b_y bx
      by_cases h1 : x < y
      · rw [if_pos (k1.2 h1)]; simp [h1]
      · rw [if_neg (fun h => h1 (k1.1 h))]
        by_cases h2 : y < x
        · rw [if_pos (k2.2 h2)]
          constructor
          · intro h; omega
          · intro h; omega
        · rw [if_neg (fun h => h2 (k2.1 h)), ih2]
          have : x = y := by omega
          simp [this]
end Go.Proofs.YtigdflfhepelaaaGreatDoor
/- A base's scale. -/
namespace Go.Proofs.YtigdflfhepelaaaGreatDoor
open Go.RowKit
set_option linter.unusedVariables false
set_option maxHeartbeats 400000

/-- A scale as the program has it. -/
abbrev SV (b n p : Nat) : Value := .agg #[.int .u32 (b : Nat), .int .i64 (n : Nat), .int .u32 (p : Nat)]
theorem piece_calls (w : World) (b n p : Nat) (h : Sc b n p) :
    Calls Tryz.prog 38 #[SV b n p] w fun e w' => e = .returned (.int .i64 (16 * n : Nat)) ∧ Ext w w' := by
  have hn := h.n32
  have hE := (Ext.refl w).alloc (.cells #[.int .u32 (b : Nat), .int .i64 (n : Nat), .int .u32 (p : Nat)] 56)
  go_enter Tryz.func38, Tryz.ntmps38
  go_wp2
  go_ret
  exact ⟨by go_num, hE⟩

/-- A scale in its block. -/
def SBx (w : World) (B b n p : Nat) : Prop := B < w.heap.size ∧ w.cell? ⟨B, 0, none⟩ = some (.int .u32 (b : Nat)) ∧ w.cell? ⟨B, 1, none⟩ = some (.int .i64 (n : Nat)) ∧ w.cell? ⟨B, 2, none⟩ = some (.int .u32 (p : Nat))
theorem SBx.ext {w w' : World} {B b n p : Nat} (h : SBx w B b n p) (hE : Ext w w') : SBx w' B b n p := by
  obtain ⟨h0, h1, h2, h3⟩ := h
  have hc := fun o => hE.cell (p := ⟨B, o, none⟩) h0
  exact ⟨Nat.lt_of_lt_of_le h0 hE.size, by rw [hc]; exact h1, by rw [hc]; exact h2, by rw [hc]; exact h3⟩
theorem SBx.new (w : World) (b n p : Nat) : SBx (w.alloc (.cells #[.int .u32 (b : Nat), .int .i64 (n : Nat), .int .u32 (p : Nat)] 56)) w.heap.size b n p := by
  refine ⟨by simp, ?_, ?_, ?_⟩ <;> go_simp

/-- A block may be written. -/
def Wr (w : World) (B : Nat) : Prop := ∀ j, w.frozen? ⟨B, j, none⟩ = false
theorem Wr.setCell {w : World} {B : Nat} (h : Wr w B) (p : Addr) (v : Value) : Wr (w.setCell p v) B := by
  intro j
  have := h j
  go_simp
/-- The answer's block, before it is written. -/
def ZBx (w : World) (B : Nat) : Prop := B < w.heap.size ∧ w.cell? ⟨B, 0, none⟩ = some (.int .u32 0) ∧ w.cell? ⟨B, 1, none⟩ = some (.int .i64 0) ∧ w.cell? ⟨B, 2, none⟩ = some (.int .u32 0)

set_option maxRecDepth 100000 in
set_option maxHeartbeats 4000000 in
theorem scaleOf_calls (w : World) (b : Nat) (h2 : 2 ≤ b) (h36 : b ≤ 36) :
    Calls Tryz.prog 32 #[.int .i64 (b : Nat)] w fun e w' => (∃ n p, Sc b n p ∧ e = .returned (SV b n p)) ∧ Ext w w' := by
  have hE := ((Ext.refl w).alloc (.cells #[.int .u32 0, .int .i64 0, .int .u32 0] 56)).alloc (.cells #[.int .u32 (b : Nat), .int .i64 1, .int .u32 (b : Nat)] 56)
  have HI : Hid (ScI b 1 b) := ⟨Nat.le_refl _, (Nat.pow_one _).symm, by omega⟩
  have hb1 : (b : Int) % 4294967296 = b := by omega
  have hb2 : (b : Int) % 18446744073709551616 = b := by omega
  go_enter Tryz.func32, Tryz.ntmps32
  go_wp2
  have hZ : ZBx ((w.alloc (.cells #[.int .u32 0, .int .i64 0, .int .u32 0] 56)).alloc (.cells #[.int .u32 (b : Nat), .int .i64 1, .int .u32 (b : Nat)] 56)) w.heap.size := by refine ⟨by simp; omega, ?_, ?_, ?_⟩ <;> go_simp
  have hS : SBx ((w.alloc (.cells #[.int .u32 0, .int .i64 0, .int .u32 0] 56)).alloc (.cells #[.int .u32 (b : Nat), .int .i64 1, .int .u32 (b : Nat)] 56)) (w.heap.size + 1) b 1 b := by refine ⟨by simp, ?_, ?_, ?_⟩ <;> go_simp
  have hF : Wr ((w.alloc (.cells #[.int .u32 0, .int .i64 0, .int .u32 0] 56)).alloc (.cells #[.int .u32 (b : Nat), .int .i64 1, .int .u32 (b : Nat)] 56)) w.heap.size := by intro j; go_simp
  have hG : Wr ((w.alloc (.cells #[.int .u32 0, .int .i64 0, .int .u32 0] 56)).alloc (.cells #[.int .u32 (b : Nat), .int .i64 1, .int .u32 (b : Nat)] 56)) (w.heap.size + 1) := by intro j; go_simp
  go_loopw [10] (fun t wr => ∃ n p : Nat, Wr wr w.heap.size ∧ Wr wr (w.heap.size + 1) ∧ Hid (ScI b n p) ∧ SBx wr (w.heap.size + 1) b n p ∧ ZBx wr w.heap.size ∧ Ext w wr) (fun _ wr => match wr.cell? ⟨w.heap.size + 1, 1, none⟩ with | some v => 32 - (intOf v).toNat | none => 0)
  case atStart => exact ⟨1, b, hF, hG, HI, hS, hZ, hE⟩
  case round =>
    clear HI hS hZ hE hF hG
    obtain ⟨n, p, hF, hG, HO, hS, hZ, hE⟩ := hrel
    have hF0 := hF 0
    have hF1 := hF 1
    have hF2 := hF 2
    have hG1 := hG 1
    have hG2 := hG 2
    have hpf := HO.out.fit
    have hn32 := HO.out.n32 h2
    obtain ⟨s0, s1, s2, s3⟩ := id hS
    obtain ⟨z0, z1, z2, z3⟩ := id hZ
    obtain ⟨q, hq⟩ : ∃ q, p * b = q := ⟨_, rfl⟩
    have hqb : q < 18446744073709551616 := by
      rw [← hq]
      have h3 : p * b ≤ p * 36 := Nat.mul_le_mul_left p h36
      omega
    have o1 : (p : Int) * (b : Int) = (q : Int) := by rw [← hq]; exact (Int.natCast_mul p b).symm
    have o2 : IntKind.u64.wrap (q : Int) = (q : Int) := by rw [IntKind.wrap_u64]; omega
    have o3 : (q : Int) % 18446744073709551616 = (q : Int) := by omega
    have o4 : IntKind.u64.wrap (p : Int) = (p : Int) := by rw [IntKind.wrap_u64]; omega
    have o5 : (p : Int) % 18446744073709551616 = (p : Int) := by omega
    by_cases hlt : q < 4294967296
    · have HST := Lib.hid (HO.out.step (by rw [hq]; exact hlt))
      have o6 : (q : Int) % 4294967296 = q := by omega
      rw [hq] at HST
      have hd : ((q : Int) < 4294967296) := by omega
      clear HO hS hZ
      go_wp2
      go_roundw
      case rel =>
        refine ⟨n + 1, q, (hF.setCell _ _).setCell _ _, (hG.setCell _ _).setCell _ _, HST, ⟨by simp; omega, ?_, ?_, ?_⟩, ⟨by simp; omega, ?_, ?_, ?_⟩, (hE.setCell (by simp) _).setCell (by simp) _⟩ <;> go_simp
      case measure =>
        rw [s2]
        have e : ((wr.setCell { block := w.heap.size + 1, off := 1 } (Value.int IntKind.i64 ((n : Int) + 1))).setCell { block := w.heap.size + 1, off := 2 } (Value.int IntKind.u32 (q : Int))).cell? { block := w.heap.size + 1, off := 1 } = some (.int .i64 ((n : Int) + 1)) := by go_simp
        rw [e]
        show 32 - ((n : Int) + 1).toNat < 32 - (n : Int).toNat
        omega
    · have HD := Lib.hid (HO.out.done h2 h36 (by rw [hq]; omega))
      have hd : ¬ ((q : Int) < 4294967296) := by omega
      clear HO hS hZ
      go_wp2
      (try simp only [Exit.inBlock, Exit.then])
      refine bodyPost_ret (v := SV b n p) (show (results _ _).run _ _ = _ from ?_) rfl ⟨⟨n, p, HD.out, rfl⟩, ((hE.setCell (by simp) _).setCell (by simp) _).setCell (by simp) _⟩
      simp only [results]
      go_simp
end Go.Proofs.YtigdflfhepelaaaGreatDoor
