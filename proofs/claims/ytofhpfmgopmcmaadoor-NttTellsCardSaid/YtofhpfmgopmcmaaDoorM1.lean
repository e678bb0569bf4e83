/- A row laid in, modulo a prime, and down. -/
import Derived.Test.YtofhpfmgopmcmaaDoorL5
namespace Go.Proofs.YtofhpfmgopmcmaaDoor
open Go.RowKit
set_option linter.unusedVariables false
set_option maxHeartbeats 400000

/-- The numbers, times 2^32, and noughts behind them. -/
def ml (f : Fd) (n : Nat) (l : List Nat) : List Nat := (List.range n).map fun j => mont f (lb l j)
theorem ml_len (f : Fd) (n : Nat) (l : List Nat) : (ml f n l).length = n := by simp [ml]
theorem ml_at (f : Fd) (n : Nat) (l : List Nat) (j : Nat) (h : j < n) : lb (ml f n l) j = mont f (lb l j) := lb_map _ _ _ h
theorem ml_lt (f : Fd) (hf : Good f) (n : Nat) (l : List Nat) : ∀ x ∈ ml f n l, x < f.p := by
  intro x hx
  obtain ⟨q, _, rfl⟩ := List.mem_map.1 hx
  exact mont_lt f hf _
structure MlI (f : Fd) (n : Nat) (l : List Nat) (j : Nat) (o : List Nat) : Prop where
  len : o.length = n
  lt : ∀ x ∈ o, x < f.p
  at_ : ∀ q, lb o q = if q < j then mont f (lb l q) else 0
theorem MlI.start (f : Fd) (hf : Good f) (n : Nat) (l : List Nat) : MlI f n l 0 (List.replicate n 0) :=
  ⟨by simp, fun x hx => by have := hf.p0; rw [List.eq_of_mem_replicate hx]; omega, fun q => by rw [lb_zeros, if_neg (by omega)]⟩
theorem MlI.step {f : Fd} (hf : Good f) {n : Nat} {l : List Nat} {j : Nat} {o : List Nat} (H : MlI f n l j o) (hj : j < n) : MlI f n l (j + 1) (o.set j (mont f (lb l j))) := by
  refine ⟨by simp [H.len], set_lt H.lt (mont_lt f hf _), fun q => ?_⟩
  rw [lb_set _ _ _ _ (by rw [H.len]; exact hj)]
  by_cases e : j = q
  · subst e; rw [if_pos rfl, if_pos (by omega)]
  · rw [if_neg e, H.at_ q]
    by_cases c : q < j
    · rw [if_pos c, if_pos (by omega)]
    · rw [if_neg c, if_neg (by omega)]
theorem lb_past (l : List Nat) (j : Nat) (h : l.length ≤ j) : lb l j = 0 := by unfold lb; rw [List.getElem?_eq_none h]; rfl
theorem mont_zero (f : Fd) : mont f 0 = 0 := by unfold mont; rw [Nat.zero_mul, Nat.zero_mod]
theorem MlI.done {f : Fd} {n : Nat} {l : List Nat} {o : List Nat} (H : MlI f n l l.length o) : o = ml f n l := by
  refine ext_lb (by rw [H.len, ml_len]) fun q hq => ?_
  rw [ml_at f n l q (by rw [← H.len]; exact hq), H.at_ q]
  by_cases c : q < l.length
  · rw [if_pos c]
  · rw [if_neg c, lb_past l q (by omega), mont_zero]

set_option maxRecDepth 100000 in
set_option maxHeartbeats 4000000 in
theorem load_calls (w : World) (f : Fd) (hf : Good f) (k n W Bn Bf Bq q : Nat) (pw : List Nat) (hn : 2 ^ k = n) (hk : k ≤ 20) (hr : Rt f.p W k) (hp : Pw f k W pw) (hq : Rd w q pw)
    (h1 : Bn < w.heap.size ∧ w.cell? ⟨Bn, 0, none⟩ = some (.int .i64 (n : Nat))) (h2 : Bx w Bf f) (h3 : Bq < w.heap.size ∧ w.cell? ⟨Bq, 0, none⟩ = some (.slice (some ⟨q, 0, none⟩) pw.length pw.length))
    (v : Value) (l : List Nat) (hu : U w v l) (hl : l.length ≤ n) :
    Calls Tryd.prog 50 #[v, .pointer (some ⟨Bn, 0, none⟩), .pointer (some ⟨Bf, 0, none⟩), .pointer (some ⟨Bq, 0, none⟩)] w fun e w' => (∃ g o, e = .returned (.slice (some ⟨g, 0, none⟩) n n) ∧ DownL f k W (ml f n l) 0 o ∧ Own w' w.heap.size (.slice (some ⟨g, 0, none⟩) n n) o) ∧ Ext w w' := by
  have p0 := hf.p0
  have p1 := hf.p1
  have hn1 : n ≤ 1048576 := by rw [← hn]; exact Nat.pow_le_pow_right (by decide) hk
  have hn0 : 0 < n := by rw [← hn]; exact Nat.two_pow_pos k
  obtain ⟨A, c, rfl, ⟨hc1, hc2⟩, hx, hrd⟩ := id hu
  have HN := Lib.hid hn
  obtain ⟨i0, hi, hz0, hz1, hz2⟩ := info_parts info32
  obtain ⟨hn3, hn4⟩ := h1
  obtain ⟨hq3, hq4⟩ := h3
  clear hn
  obtain ⟨L, hLL⟩ : ∃ L, l.length = L := ⟨_, rfl⟩
  have HL := Lib.hid hLL
  rw [hLL] at hl hc1 hc2 hu hrd ⊢
  clear hLL
  go_enter Tryd.func50, Tryd.ntmps50
  go_wp2_with (at_make; refine wpList_make_full _ rfl _ _ 22 rfl w.heap.size 27 i0 (.int .u32 0) 1 Tryd.underlying22 hi hz0 hz1 _ _ _ _ n rfl rfl (by omega) (by omega) (by rw [hz2]; omega) (by unfold maxLen; omega) (by simp) ?_; intro w1 hown hgrow)
  have ho0 := Own.zeros hown
  have hB0 : Ext w w1 := (Ext.refl w).grown hgrow (by simp) (fun _ h => by cases h)
  clear hown hgrow
  rw [List.length_replicate] at ho0
  clear hi hz0 hz1 hz2 i0 hu
  go_loopw [13] (fun t wr => ∃ (j : Nat) (o : List Nat), j ≤ L ∧ t = .int .i64 (j : Nat) ∧ Hid (MlI f n l j o) ∧ Own wr w.heap.size (.slice (some ⟨w.heap.size, 0, none⟩) n n) o ∧ Ext w wr) (fun t _ => L - (intOf t).toNat)
  case atStart => exact ⟨0, _, Nat.zero_le _, rfl, MlI.start f hf n l, ho0, hB0⟩
  case round =>
    clear ho0 hB0
    obtain ⟨j, o, hj, rfl, HO, hown, hE⟩ := hrel
    by_cases hlt : j < L
    · obtain ⟨ad, rfl, hb, hcell⟩ := hrd (by omega)
      have hc1 := (hE.cell (p := ad.add j) (by rw [addr_add_block]; exact hb)).trans (hcell j hlt)
      have HST := Lib.hid (HO.out.step hf (j := j) (by omega))
      have hx1 := lb_lt hx j
      obtain ⟨b0, b1, b2, b3, b4, b5⟩ := h2.ext hE
      generalize lb l j = x at *
      have hj0 : (0 : Int) ≤ (j : Int) := by omega
      have hj1 : (j : Int) < (L : Int) := by omega
      have hj2 : (j : Int) < (n : Int) := by omega
      have hoL := HO.out.len
      clear hrd hcell hn4 hq4 HO
      go_wp2_with (fail)
      refine (in_calls _ f hf x hx1).mono ?_
      rintro e w3 ⟨rfl, hB3⟩
      have hm := mont_lt f hf x
      replace hown := hown.ext hB3
      replace hE := hE.below hB3
      have hs := hown.set' j (mont f x)
      have hfr := Own.frozen (c := n) (by rw [hoL]; exact hown) j
      have hcl := Own.cell (c := n) (j := j) (by rw [hoL]; exact hown) (by omega)
      have hE2 : Ext w (w3.setCell ⟨w.heap.size, j, none⟩ (.int .u32 (mont f x : Nat))) := hE.setCell (by simp) _
      generalize mont f x = Y at *
      clear b0 b1 b2 b3 b4 b5 hown hE hc1 hB3
      go_wp2_with (fail)
      go_roundw
      case rel => exact ⟨j + 1, _, by omega, by go_num, HST, hs, hE2⟩
      case measure => simp [intOf]; omega
    · obtain rfl : j = L := by omega
      have HD := HO.out
      rw [← HL.out] at HD
      have hd := HD.done
      subst hd
      obtain ⟨b0, b1, b2, b3, b4, b5⟩ := h2.ext hE
      have hq5 := (hE.cell hq3).trans hq4
      have hq6 : Rd wr q pw := ((But.refl w.heap.size w).ext hE).rd hq (by have := hq.1; omega)
      have hqg : q ≠ w.heap.size := by have := hq.1; omega
      clear hrd hn4 hq4 HO hlt
      go_wp2_with (fail)
      refine (down_n _ f hf k W n (ml f n l) pw w.heap.size q n w.heap.size HN.out hk hr hp (by rw [ml_len, HN.out]) (ml_lt f hf n l) hown hq6 hqg).mono ?_
      rintro e w5 ⟨rfl, ⟨o5, hd5, ho5⟩, hB5⟩
      have hE6 := hE.trans (hB5.below (B := w.heap.size) (Nat.le_refl _) (Nat.le_trans hE.size (Nat.le_refl _)))
      have HD5 := Lib.hid hd5
      clear hd5 b0 b1 b2 b3 b4 b5 hB5 hE hq5 hq6
      go_wp2
      go_ret
      exact ⟨⟨_, o5, rfl, HD5.out, ho5⟩, hE6⟩
end Go.Proofs.YtofhpfmgopmcmaaDoor
