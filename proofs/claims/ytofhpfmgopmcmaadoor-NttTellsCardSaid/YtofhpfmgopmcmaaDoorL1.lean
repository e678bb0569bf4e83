/- The document's own words that every statement of this stage takes: primes, rows of numbers, lengths. -/
import Derived.Test.YtofhpfmgopmcmaaDoorFr
import Derived.Laws.BitsLemmas
import Derived.Deep.RegionHeld3
namespace Go.Proofs.YtofhpfmgopmcmaaDoor
open Go.ChangeShapes Go.WideShapes Go.ChangeAt Go.RowKit
set_option linter.unusedVariables false
set_option maxHeartbeats 400000

theorem i64_and255 (n : Int) : bits .and .i64 n 255 = n % 256 := by
  have h255 : (BitVec.ofInt 64 255).toNat = 2 ^ 8 - 1 := by decide
  have key : (BitVec.ofInt 64 n &&& BitVec.ofInt 64 255).toNat = (n % ((2 ^ 64 : Nat) : Int)).toNat % 2 ^ 8 := by
    rw [BitVec.toNat_and, BitVec.toNat_ofInt, h255, Nat.and_two_pow_sub_one_eq_mod]
  show IntKind.i64.wrap ((BitVec.ofInt 64 n &&& BitVec.ofInt 64 255).toNat : Nat) = n % 256
  rw [key, IntKind.wrap_i64]
  omega

theorem rprime_calls (w : World) (i : Nat) (hi : i < 3) :
    Calls Tryd.prog 15 #[.int .i64 (i : Nat)] w fun e w' => e = .returned (.int .u32 ((fd i).p : Nat)) ∧ w = w' := by
  rcases (show i = 0 ∨ i = 1 ∨ i = 2 by omega) with rfl | rfl | rfl
  · go_enter Tryd.func15, Tryd.ntmps15
    go_wp2
    go_ret
    exact ⟨rfl, rfl⟩
  · go_enter Tryd.func15, Tryd.ntmps15
    go_wp2
    go_ret
    exact ⟨rfl, rfl⟩
  · go_enter Tryd.func15, Tryd.ntmps15
    go_wp2
    go_ret
    exact ⟨rfl, rfl⟩
theorem rprime_B (w : World) (i : Nat) (hi : i < 3) (p : Nat) (hp : (fd i).p = p) :
    Calls Tryd.prog 15 #[.int .i64 (i : Nat)] w fun e w' => e = .returned (.int .u32 (p : Nat)) ∧ Ext w w' :=
  (rprime_calls w i hi).mono fun e w' ⟨h1, h2⟩ => ⟨by rw [h1, hp], by rw [← h2]; exact Ext.refl w⟩

/-- 2^k numbers below p, made of any ones. -/
def rowv (p k : Nat) (l : List Nat) : List Nat := (List.range (2 ^ k)).map fun t => lb l t % p
theorem rowv_len (p k : Nat) (l : List Nat) : (rowv p k l).length = 2 ^ k := by simp [rowv]
theorem lb_rowv (p k : Nat) (l : List Nat) (j : Nat) (h : j < 2 ^ k) : lb (rowv p k l) j = lb l j % p := lb_map _ _ _ h
theorem rowv_lt (p k : Nat) (l : List Nat) (hp : 0 < p) : ∀ x ∈ rowv p k l, x < p := by
  intro x hx
  obtain ⟨j, _, rfl⟩ := List.mem_map.1 hx
  exact Nat.mod_lt _ hp
structure RowI (p n : Nat) (l : List Nat) (t : Nat) (o : List Nat) : Prop where
  len : o.length = n
  lt : ∀ x ∈ o, x < p
  at_ : ∀ j, lb o j = if j < t then lb l j % p else 0
theorem RowI.start (p n : Nat) (l : List Nat) (hp : 0 < p) : RowI p n l 0 (List.replicate n 0) := ⟨by simp, fun x hx => by simp at hx; omega, fun j => by rw [lb_zeros, if_neg (by omega)]⟩
theorem RowI.step {p n : Nat} {l : List Nat} {t : Nat} {o : List Nat} (H : RowI p n l t o) (hp : 0 < p) (ht : t < n) : RowI p n l (t + 1) (o.set t (lb l t % p)) := by
  refine ⟨by simp [H.len], set_lt H.lt (Nat.mod_lt _ hp), fun j => ?_⟩
  rw [lb_set _ _ _ _ (by rw [H.len]; exact ht), H.at_ j]
  by_cases e : t = j
  · subst e; rw [if_pos rfl, if_pos (by omega)]
  · rw [if_neg e]
    by_cases c : j < t
    · rw [if_pos c, if_pos (by omega)]
    · rw [if_neg c, if_neg (by omega)]
theorem RowI.done {p k : Nat} {l : List Nat} {t : Nat} {o : List Nat} (H : RowI p (2 ^ k) l t o) (ht : t = 2 ^ k ∨ l.length ≤ t) : o = rowv p k l := by
  refine ext_lb (by rw [H.len, rowv_len]) fun j hj => ?_
  rw [H.len] at hj
  rw [lb_rowv _ _ _ _ hj, H.at_ j]
  by_cases c : j < t
  · rw [if_pos c]
  · rw [if_neg c, lb_out (o := l) (by omega), Nat.zero_mod]

set_option maxRecDepth 100000 in
set_option maxHeartbeats 2000000 in
theorem rrow_calls (w : World) (i k : Nat) (hi : i < 3) (hk : k ≤ 16) (v : Value) (l : List Nat) (hu : U w v l) :
    Calls Tryd.prog 23 #[.int .i64 (i : Nat), v, .int .i64 (k : Nat)] w fun e w' => (∃ u, e = .returned u ∧ U w' u (rowv (fd i).p k l)) ∧ Ext w w' := by
  obtain ⟨A, c, rfl, ⟨hc, hm⟩, hx, hr⟩ := id hu
  have p0 := (fd_fld i).good.p0
  have p1 := (fd_fld i).good.p1
  have hP := Lib.hid (fun W => rprime_calls W i hi)
  generalize (fd i).p = p at *
  obtain ⟨n, hn⟩ : ∃ n, 2 ^ k = n := ⟨_, rfl⟩
  have hn1 : n ≤ 65536 := by rw [← hn]; exact Nat.pow_le_pow_right (by decide) hk
  have hn0 : 0 < n := by rw [← hn]; exact Nat.two_pow_pos k
  have hsh : (2 : Int) ^ k = (n : Int) := by rw [← hn, Int.natCast_pow]; rfl
  have hkw : IntKind.u64.wrap (k : Int) = (k : Int) := by rw [IntKind.wrap_u64]; omega
  have HN := Lib.hid hn
  obtain ⟨L, hL⟩ : ∃ L, l.length = L := ⟨_, rfl⟩
  have HLL := Lib.hid hL
  rw [hL] at hc hm hr ⊢
  clear hn hL hu
  obtain ⟨i0, hi0, hz0, hz1, hz2⟩ := info_parts info32
  go_enter Tryd.func23, Tryd.ntmps23
  go_wp2_with (at_make; refine wpList_make_full _ rfl _ _ 22 rfl (w.heap.size) 27 i0 (.int .u32 0) 1 Tryd.underlying22 hi0 hz0 hz1 _ _ _ _ n rfl rfl (by omega) (by omega) (by rw [hz2]; omega) (by unfold maxLen; omega) (Nat.le_refl _) ?_; intro w1 hown hgrow)
  have ho0 := Own.zeros hown
  have hB0 : Ext w w1 := (Ext.refl w).grown hgrow (Nat.le_refl _) (fun _ h => by cases h)
  rw [List.length_replicate] at ho0
  clear hown hgrow hi0 hz0 hz1 hz2 i0
  obtain ⟨B, hB⟩ : ∃ B, w.heap.size = B := ⟨_, rfl⟩
  have HBB := Lib.hid hB
  rw [hB] at ho0 ⊢
  clear hB
  go_wp2
  go_loopw [8] (fun t wr => ∃ (j : Nat) (o : List Nat), j ≤ n ∧ j ≤ L ∧ t = .int .i64 (j : Nat) ∧ Hid (RowI p n l j o) ∧ Own wr B (.slice (some ⟨B, 0, none⟩) n n) o ∧ Ext w wr) (fun t _ => n - (intOf t).toNat)
  case atStart => exact ⟨0, _, Nat.zero_le _, Nat.zero_le _, rfl, RowI.start p n l (by omega), ho0, hB0⟩
  case round =>
    clear ho0 hB0
    obtain ⟨j, o, hj, hjL, rfl, HO, hown, hE⟩ := hrel
    have hfinish : (j = n ∨ L ≤ j) → Hid (∃ u, Ending.returned (.slice (some ⟨B, 0, none⟩) n n) = .returned u ∧ U wr u (rowv p k l)) := fun h => by
      have e : o = rowv p k l := by
        have h1 := HO.out
        rw [← HN.out] at h1 h
        exact h1.done (by rw [HLL.out]; exact h)
      refine ⟨_, rfl, ?_⟩
      rw [← e]
      exact hown.toU (fun x hx => Nat.lt_trans (HO.out.lt x hx) (by omega)) (by rw [HO.out.len]; omega)
    by_cases h1 : j < n
    · by_cases h2 : j < L
      · obtain ⟨ad, rfl, hb, hcell⟩ := hr (by omega)
        have hc1 := (hE.cell (p := ad.add j) (by rw [addr_add_block]; exact hb)).trans (hcell j h2)
        have hx1 := lb_lt hx j
        have HST := Lib.hid (HO.out.step (by omega) h1)
        have hs := hown.set' j (lb l j % p)
        have hc2 := hown.rd.2 j (by rw [HO.out.len]; exact h1)
        have hf2 := hown.frozen' j
        have hE2 : Ext w (wr.setCell ⟨B, j, none⟩ (.int .u32 (lb l j % p : Nat))) := hE.setCell (p := ⟨B, j, none⟩) (by show w.heap.size ≤ B; have := HBB.out; omega) _
        generalize lb l j = x at *
        obtain ⟨y, hy⟩ : ∃ y, x % p = y := ⟨_, rfl⟩
        rw [hy] at HST hs hE2
        have hyi : (x : Int) % (p : Int) = (y : Int) := by rw [← hy, Int.natCast_emod]
        have hyt : ((x : Int)).tmod (p : Int) = (y : Int) := by rw [Int.tmod_eq_emod_of_nonneg (by omega)]; exact hyi
        have hylt : y < p := by rw [← hy]; exact Nat.mod_lt _ (by omega)
        have hyw : IntKind.u32.wrap (y : Int) = (y : Int) := by rw [IntKind.wrap_u32]; omega
        have hp0a : ¬ ((p : Int) = 0) := by omega
        have hp0b : ¬ (p = 0) := by omega
        have hp0c : ((p : Int) == 0) = false := by rw [beq_eq_false_iff_ne]; omega
        have hj1 : (j : Int) < (n : Int) := by omega
        have hj2 : (j : Int) < (L : Int) := by omega
        have hj0 : (0 : Int) ≤ (j : Int) := by omega
        clear hy hcell hown HO hE hfinish
        go_wp2
        go_region_with (go_at_call 15; refine (hP.out _).mono ?_; rintro e w' ⟨rfl, rfl⟩)
        all_goals
          go_wp2
          go_roundw
          case rel => exact ⟨j + 1, _, by omega, by omega, by go_num, HST, hs.drew, hE2.drew⟩
          case measure => simp [intOf]; omega
      · have HF := hfinish (.inr (by omega))
        have hd1 : decide (j < L) = false := by rw [decide_eq_false_iff_not]; omega
        clear hfinish
        go_wp2
        go_ret
        exact ⟨HF.out, hE⟩
    · have HF := hfinish (.inl (by omega))
      clear hfinish
      go_wp2
      go_ret
      exact ⟨HF.out, hE⟩
end Go.Proofs.YtofhpfmgopmcmaaDoor
