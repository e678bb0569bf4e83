/- The powers of a root that a transform wants. -/
import Derived.Test.YtofhpfmgopmcmaaDoorF2
namespace Go.Proofs.YtofhpfmgopmcmaaDoor
open Go.RowKit
set_option linter.unusedVariables false
set_option maxHeartbeats 400000

/-- From place 2^s on the first 2^s powers of the root of the order 2^(s+1). -/
structure Pw (f : Fd) (k W : Nat) (o : List Nat) : Prop where
  len : o.length = 2 ^ k
  lt : ∀ x ∈ o, x < f.p
  at_ : ∀ s j, s < k → j < 2 ^ s → lb o (2 ^ s + j) = mont f (W ^ (2 ^ (k - 1 - s) * j))
/-- Behind the first j rounds. -/
structure PwUp (f : Fd) (n h W j : Nat) (o : List Nat) : Prop where
  len : o.length = n
  lt : ∀ x ∈ o, x < f.p
  at_ : ∀ i, i < j → lb o (h + i) = mont f (W ^ i)
theorem PwUp.start (f : Fd) (hf : Good f) (n h W : Nat) : PwUp f n h W 0 (List.replicate n 0) :=
  ⟨by simp, fun x hx => by have := hf.p0; simp at hx; omega, fun i hi => by omega⟩
theorem PwUp.step {f : Fd} (hf : Good f) {n h W j : Nat} {o : List Nat} (H : PwUp f n h W j o) (hj : h + j < n) : PwUp f n h W (j + 1) (o.set (h + j) (mont f (W ^ j))) := by
  refine ⟨by simp [H.len], set_lt H.lt (mont_lt f hf _), fun i hi => ?_⟩
  rw [lb_set _ _ _ _ (by rw [H.len]; exact hj)]
  by_cases e : i = j
  · subst e; rw [if_pos rfl]
  · rw [if_neg (by omega)]; exact H.at_ i (by omega)
/-- On the way down, all places above i done. -/
structure PwDn (f : Fd) (n h W i : Nat) (o : List Nat) : Prop where
  up : PwUp f n h W h o
  dn : ∀ m, i < m → m < h → lb o m = lb o (2 * m)
theorem PwDn.step {f : Fd} {n h W i : Nat} {o : List Nat} (H : PwDn f n h W i o) (hi : 0 < i) (hih : i < h) (hn : n = 2 * h) : PwDn f n h W (i - 1) (o.set i (lb o (2 * i))) := by
  have hl := H.up.len
  have hlt : lb o (2 * i) < f.p := by
    have hm : lb o (2 * i) ∈ o := by
      unfold lb; rw [List.getElem?_eq_getElem (by omega)]; exact List.getElem_mem _
    exact H.up.lt _ hm
  refine ⟨⟨by simp [hl], set_lt H.up.lt hlt, fun j hj => ?_⟩, fun m h1 h2 => ?_⟩
  · rw [lb_set _ _ _ _ (by omega), if_neg (by omega)]; exact H.up.at_ j hj
  · rw [lb_set _ _ _ _ (by omega), lb_set _ _ _ _ (by omega), if_neg (show ¬ i = 2 * m by omega)]
    by_cases e : i = m
    · rw [if_pos e, e]
    · rw [if_neg e]; exact H.dn m (by omega) h2
theorem PwDn.done {f : Fd} {k W : Nat} {o : List Nat} (H : PwDn f (2 ^ (k + 1)) (2 ^ k) W 0 o) : Pw f (k + 1) W o := by
  refine ⟨H.up.len, H.up.lt, fun s j hs hj => ?_⟩
  have key : ∀ d s j, s + d = k → j < 2 ^ s → lb o (2 ^ s + j) = mont f (W ^ (2 ^ d * j)) := by
    intro d
    induction d with
    | zero => intro s j hs hj; obtain rfl : s = k := by omega
              rw [H.up.at_ j hj, Nat.pow_zero, Nat.one_mul]
    | succ d ih =>
      intro s j hs hj
      have h1 : 2 ^ s + j < 2 ^ k := by
        have : 2 ^ (s + 1) ≤ 2 ^ k := Nat.pow_le_pow_right (by decide) (by omega)
        rw [Nat.pow_succ] at this; omega
      rw [H.dn _ (by have := Nat.two_pow_pos s; omega) h1, show 2 * (2 ^ s + j) = 2 ^ (s + 1) + 2 * j by rw [Nat.pow_succ]; omega, ih (s + 1) (2 * j) (by omega) (by rw [Nat.pow_succ]; omega)]
      congr 2; rw [Nat.pow_succ, Nat.mul_assoc]
  exact key (k + 1 - 1 - s) s j (by omega) hj
theorem Pw.one (f : Fd) (hf : Good f) (W : Nat) (o : List Nat) (h : o.length = 1) (hl : ∀ x ∈ o, x < f.p) : Pw f 0 W o := ⟨h, hl, fun s j hs _ => by omega⟩

set_option maxRecDepth 100000 in
set_option maxHeartbeats 1600000 in
theorem powers_calls (w : World) (f : Fd) (hf : Good f) (k n W : Nat) (hn : n = 2 ^ k) (hk : k ≤ 20) :
    Calls Tryd.prog 40 #[f.V, .int .i64 (n : Nat), .int .u32 (mont f W : Nat)] w fun e w' => (∃ g o, e = .returned (.slice (some ⟨g, 0, none⟩) o.length o.length) ∧ Pw f k W o ∧ Own w' w.heap.size (.slice (some ⟨g, 0, none⟩) o.length o.length) o) ∧ Ext w w' := by
  have p0 := hf.p0
  have p1 := hf.p1
  have hn1 : n ≤ 1048576 := by rw [hn]; exact Nat.pow_le_pow_right (by decide) hk
  have hn0 : 0 < n := by rw [hn]; exact Nat.two_pow_pos k
  have HX := Bx.new w f
  have hmW := mont_lt f hf W
  obtain ⟨h, hh⟩ : ∃ h, n / 2 = h := ⟨_, rfl⟩
  have hhi : ((n : Nat) : Int) / 2 = (h : Int) := by omega
  have hcase : (k = 0 ∧ n = 1 ∧ h = 0) ∨ (∃ k', k = k' + 1 ∧ h = 2 ^ k' ∧ n = 2 * h) := by
    rcases k with _ | k'
    · rw [Nat.pow_zero] at hn; exact .inl ⟨rfl, hn, by omega⟩
    · rw [Nat.pow_succ] at hn; exact .inr ⟨k', rfl, by omega, by omega⟩
  have hh2 : 2 * h ≤ n := by omega
  have HC := Lib.hid hcase
  have HN := Lib.hid hn
  clear hcase hn hh
  obtain ⟨i0, hi, hz0, hz1, hz2⟩ := info_parts info32
  unfold Fd.V
  go_enter Tryd.func40, Tryd.ntmps40
  go_wp2_with (at_make; refine wpList_make_full _ rfl _ _ 22 rfl (w.heap.size + 1) 27 i0 (.int .u32 0) 1 Tryd.underlying22 hi hz0 hz1 _ _ _ _ n rfl rfl (by omega) (by omega) (by rw [hz2]; omega) (by unfold maxLen; omega) (by simp) ?_; intro w1 hown hgrow; have hY := HX.below ((Below.refl _ _).grown hgrow (Nat.le_refl _) (fun _ h => by cases h)) HX.1; obtain ⟨c0, c1, c2, c3, c4, c5⟩ := id hY)
  have ho0 := Own.zeros hown
  have hB0 : Ext w w1 := ((Ext.refl w).alloc _).grown hgrow (by simp) (fun _ h => by cases h)
  clear hown hgrow
  refine (in_calls _ f hf 1 (by decide)).mono ?_
  rintro e w2 ⟨rfl, hB2⟩
  replace HX := hY.ext hB2
  have hb0 := (Own.block ho0).2
  have ho2 := ho0.below hB2 (fun g hg => by injection hg with hg; subst hg; exact hb0)
  have hE := hB0.below hB2
  obtain ⟨d0, d1, d2, d3, d4, d5⟩ := id HX
  have hNB : w1.heap.size ≤ w2.heap.size := hB2.size
  clear hB2 hB0 ho0 hY c0 c1 c2 c3 c4 c5 hi hz0 hz1 hz2 i0 
  go_wp2_with (fail)
  rw [show ∀ x, (w.alloc x).heap.size = w.heap.size + 1 from fun x => by simp] at ho2
  go_loopw [9, 10, 19] (fun x _ j wr => ∃ (i : Nat) (o : List Nat), i ≤ h ∧ j = .int .i64 i ∧ x = .int .u32 (mont f (W ^ i) : Nat) ∧ Hid (PwUp f n h W i o) ∧ Own wr w.heap.size (.slice (some ⟨w.heap.size + 1, 0, none⟩) o.length n) o ∧ Ext w wr ∧ Bx wr w.heap.size f) (fun _ _ j _ => h - (intOf j).toNat)
  case atStart => exact ⟨0, _, Nat.zero_le _, rfl, by rw [Nat.pow_zero], PwUp.start f hf n h W, Own.base_mono (base' := w.heap.size) ho2 (by omega), hE, HX⟩
  case round =>
    clear ho2 HX d0 d1 d2 d3 d4 d5 hE
    obtain ⟨i, o, hi, rfl, rfl, HO, hown, hE, HX⟩ := hrel
    have hoL := HO.out.len
    by_cases hlt : i < h
    · have hst := HO.out.step hf (j := i) (by omega)
      have hs := hown.set_ (h + i) (mont f (W ^ i))
      have hfr := hown.frozen (h + i)
      have hcl := hown.cell (j := h + i) (by omega)
      have hm2 := mont_lt f hf (W ^ i)
      have hmm : Hid (mm f (mont f (W ^ i)) (mont f W) = mont f (W ^ (i + 1))) := by rw [Hid, mm_mont2 f hf, ← Nat.pow_succ]
      have HST := Lib.hid hst
      have HX2 := HX.below (B := w.heap.size) (C := w.heap.size + 1) ((Below.refl _ wr).setCell (p := ⟨w.heap.size + 1, h + i, none⟩) (by simp) (.int .u32 (mont f (W ^ i) : Nat))) (by omega)
      obtain ⟨c0, c1, c2, c3, c4, c5⟩ := id HX2
      have hE2 : Ext w (wr.setCell ⟨w.heap.size + 1, h + i, none⟩ (.int .u32 (mont f (W ^ i) : Nat))) := hE.setCell (by simp) _
      generalize mont f (W ^ i) = Y at *
      clear hst hown HX HO hoL
      go_wp2_with (fail)
      refine (mul_calls _ f hf Y (mont f W) (by omega) (by omega) (lt_prod (by omega) hmW)).mono ?_
      rintro e w3 ⟨rfl, hB3⟩
      rw [hmm.out]
      have hs3 := hs.below hB3 (fun g hg => by injection hg with hg; subst hg; exact (Own.block hs).2)
      have hE3 := hE2.below hB3
      have HX3 := HX2.ext hB3
      clear c0 c1 c2 c3 c4 c5 hs HX2 hE2 hB3 hcl hfr hE
      go_wp2_with (fail)
      go_roundw
      case rel => exact ⟨i + 1, _, by omega, by go_num, rfl, HST.out, hs3, hE3, HX3⟩
      case measure => simp [intOf]; omega
    · obtain rfl : i = h := by omega
      clear hlt hi
      go_wp2_with (fail)
      have HD : Hid (PwDn f n i W (i - 1) o) := ⟨HO.out, fun m h1 h2 => by omega⟩
      clear HO hoL HX
      go_loopw [11] (fun j wr => ∃ (m : Nat) (o : List Nat), m ≤ i ∧ j = .int .i64 ((m : Int) - 1) ∧ Hid (PwDn f n i W (m - 1) o) ∧ Own wr w.heap.size (.slice (some ⟨w.heap.size + 1, 0, none⟩) o.length n) o ∧ Ext w wr) (fun j _ => (intOf j + 1).toNat)
      case atStart => exact ⟨i, o, Nat.le_refl _, rfl, HD, hown, hE⟩
      case round =>
        clear HD hown hE
        obtain ⟨m, o, hm, rfl, HD, hown, hE⟩ := hrel
        have hoL := HD.out.up.len
        by_cases hlt : 2 ≤ m
        · obtain ⟨q, rfl⟩ : ∃ q, m = q + 1 := ⟨m - 1, by omega⟩
          have HDn := Lib.hid (HD.out.step (by omega) (by omega) (by rcases HC.out with ⟨_, _, h⟩ | ⟨_, _, _, h⟩ <;> omega))
          rw [Nat.add_sub_cancel] at HDn
          have hqq : (((q + 1 : Nat) : Int) - 1) = (q : Int) := by omega
          rw [hqq]
          have hs := hown.set_ q (lb o (2 * q))
          have hfr := hown.frozen q
          have hcl := hown.cell (j := q) (by omega)
          have hcl2 := hown.cell (j := 2 * q) (by omega)
          have hE2 : Ext w (wr.setCell ⟨w.heap.size + 1, q, none⟩ (.int .u32 (lb o (2 * q) : Nat))) := hE.setCell (by simp) _
          have hv : lb o (2 * q) < 4294967296 := Nat.lt_of_lt_of_le (lb_lt_of (by omega) HD.out.up.lt _) (by omega)
          generalize lb o (2 * q) = Y at *
          clear HD hoL hown hqq
          go_wp2_with (fail)
          go_roundw
          case rel => exact ⟨q, _, by omega, rfl, HDn.out, hs, hE2⟩
          case measure => simp [intOf]
        · have HP : Hid (Pw f k W o) := by
            have e : m - 1 = 0 := by omega
            rw [e] at HD
            rcases HC.out with ⟨h1, h2, h3⟩ | ⟨k', h1, h2, h3⟩
            · subst h1; exact Pw.one f hf W o (by omega) HD.out.up.lt
            · subst h1; subst h2; exact PwDn.done (by have := HD.out; rwa [h3, ← Nat.pow_succ'] at this)
          have hon : o.length = n := hoL
          rw [hon] at hown
          have HF : Hid (∃ g o', (Value.slice (some ⟨w.heap.size + 1, 0, none⟩) n n) = .slice (some ⟨g, 0, none⟩) o'.length o'.length ∧ Pw f k W o' ∧ Own wr w.heap.size (.slice (some ⟨g, 0, none⟩) o'.length o'.length) o') := ⟨_, o, by rw [hon], HP.out, by rw [hon]; exact hown⟩
          clear HP HD hoL hon hown
          go_wp2_with (fail)
          obtain ⟨g, o', h1, h2, h3⟩ := HF.out
          go_ret
          exact ⟨⟨g, o', by rw [← h1]; rfl, h2, h3⟩, hE⟩
end Go.Proofs.YtofhpfmgopmcmaaDoor
