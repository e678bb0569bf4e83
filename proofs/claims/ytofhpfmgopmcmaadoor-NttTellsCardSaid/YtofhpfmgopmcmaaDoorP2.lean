/- The document's transform. -/
import Derived.Test.YtofhpfmgopmcmaaDoorP1
import Derived.Test.YtofhpfmgopmcmaaDoorValues
import Derived.Test.YtofhpfmgopmcmaaDoorN1
namespace Go.Proofs.YtofhpfmgopmcmaaDoor
open Go.RowKit
set_option linter.unusedVariables false
set_option maxHeartbeats 400000
attribute [local go_sem ↓] app_shut
attribute [local go_sem] run_append_tok

theorem logN_B (w : World) (n : Nat) (hn : n < 4294967296) (hs : ∀ k, k ≤ 16 → n ≠ 2 ^ k) :
    Calls Tryd.prog 26 #[.int .i64 (n : Nat)] w fun e w' => e = .returned (.int .i64 (-1)) ∧ Ext w w' := by
  have HS := Lib.hid hs
  clear hs
  go_enter Tryd.func26, Tryd.ntmps26
  go_wp2
  go_loop [3] (fun t => ∃ j : Nat, j ≤ 17 ∧ t = .int .i64 (j : Nat)) (fun t => 17 - (intOf t).toNat)
  case atStart => exact ⟨0, Nat.zero_le _, rfl⟩
  case round =>
    obtain ⟨j, hj, rfl⟩ := hrel
    by_cases hlt : j ≤ 16
    · obtain ⟨q, hq⟩ : ∃ q, 2 ^ j = q := ⟨_, rfl⟩
      have hq1 : q ≤ 65536 := by rw [← hq]; exact Nat.pow_le_pow_right (n := 2) (by decide) hlt
      have hsh : (2 : Int) ^ j = (q : Int) := by rw [← hq, Int.natCast_pow]; rfl
      have hjw : IntKind.u64.wrap (j : Int) = (j : Int) := by rw [IntKind.wrap_u64]; omega
      have he : ((n : Int) == (q : Int)) = false := by
        rw [beq_eq_false_iff_ne]
        have := HS.out j hlt
        omega
      clear hq
      go_wp2
      go_round
      case rel => exact ⟨j + 1, by omega, by go_num⟩
      case measure => simp [intOf]; omega
    · obtain rfl : j = 17 := by omega
      go_wp2
      go_ret
      exact ⟨rfl, Ext.refl w⟩

/-- May they be transformed? -/
theorem may_i (w : World) (i : Int) (hi : i < 0 ∨ 3 ≤ i) (v : Value) (l : List Nat) (hu : U w v l) :
    Calls Tryd.prog 44 #[.int .i64 i, v] w fun e w' => e = .returned (.bool false) ∧ Ext w w' := by
  obtain ⟨A, c, rfl, hc⟩ := hu.shape
  have hP := Lib.hid (fun W => rprimeN_B W i hi)
  clear hi hu
  have HB := Ext.refl w
  go_enter Tryd.func44, Tryd.ntmps44
  go_wp2_with (fail)
  refine (hP.out _).mono ?_
  rintro x w1 ⟨rfl, hB⟩
  replace HB := HB.below hB
  clear hB
  go_wp2
  go_ret
  exact ⟨rfl, HB⟩
theorem may_len (w : World) (i : Nat) (hi : i < 3) (v : Value) (l : List Nat) (hlen : l.length < 4294967296) (hu : U w v l) (hs : ∀ k, k ≤ 16 → l.length ≠ 2 ^ k) :
    Calls Tryd.prog 44 #[.int .i64 (i : Nat), v] w fun e w' => e = .returned (.bool false) ∧ Ext w w' := by
  obtain ⟨A, c, rfl, hc⟩ := hu.shape
  have p0 := (fd_fld i).good.p0
  have hP := Lib.hid (fun W => rprime_B W i hi (fd i).p rfl)
  have hL := Lib.hid (fun W => logN_B W l.length hlen hs)
  generalize (fd i).p = p at *
  generalize l.length = n at *
  have hpz : ((p : Int) == 0) = false := by rw [beq_eq_false_iff_ne]; omega
  have HB := Ext.refl w
  clear hs hu
  go_enter Tryd.func44, Tryd.ntmps44
  go_wp2_with (fail)
  refine (hP.out _).mono ?_
  rintro x w1 ⟨rfl, hB⟩
  replace HB := HB.below hB
  clear hB
  go_wp2_with (fail)
  refine (hL.out _).mono ?_
  rintro x w2 ⟨rfl, hB⟩
  replace HB := HB.below hB
  clear hB
  go_wp2
  go_ret
  exact ⟨rfl, HB⟩
theorem may_num (w : World) (i k : Nat) (hi : i < 3) (hk : k ≤ 16) (v : Value) (l : List Nat) (hl : l.length = 2 ^ k) (hu : U w v l) (b : Bool) (hb : decide (∀ j, j < l.length → lb l j < (fd i).p) = b) :
    Calls Tryd.prog 44 #[.int .i64 (i : Nat), v] w fun e w' => e = .returned (.bool b) ∧ Ext w w' := by
  obtain ⟨n, hn⟩ : ∃ n, l.length = n := ⟨_, rfl⟩
  have hn0 : 0 < n := by rw [← hn, hl]; exact Nat.two_pow_pos k
  have hn1 : n ≤ 65536 := by rw [← hn, hl]; exact Nat.pow_le_pow_right (by decide) hk
  have hx := hu.lim
  obtain ⟨ad, c, rfl, hc, hbk, hcell⟩ := hu.opened hn hn0
  have p0 := (fd_fld i).good.p0
  have hP := Lib.hid (fun W => rprime_B W i hi (fd i).p rfl)
  have hL := Lib.hid (fun W => log_B W n k (by rw [← hn, hl]) hk)
  rw [hn] at hb
  have HBB := Lib.hid hb
  generalize (fd i).p = p at *
  have hpz : ((p : Int) == 0) = false := by rw [beq_eq_false_iff_ne]; omega
  have HB := Ext.refl w
  clear hu hb hn hl
  go_enter Tryd.func44, Tryd.ntmps44
  go_wp2_with (fail)
  refine (hP.out _).mono ?_
  rintro x w1 ⟨rfl, hB⟩
  replace HB := HB.below hB
  clear hB
  go_wp2_with (fail)
  refine (hL.out _).mono ?_
  rintro x w2 ⟨rfl, hB⟩
  replace HB := HB.below hB
  clear hB
  go_wp2
  go_loop [6] (fun t => ∃ j : Nat, j ≤ n ∧ t = .int .i64 (j : Nat) ∧ Hid (∀ m, m < j → lb l m < p)) (fun t => n - (intOf t).toNat)
  case atStart => exact ⟨0, Nat.zero_le _, rfl, fun m hm => absurd hm (by omega)⟩
  case round =>
    obtain ⟨j, hj, rfl, HJ⟩ := hrel
    by_cases hlt : j < n
    · have hc1 := (HB.cell (p := ad.add j) (by rw [addr_add_block]; exact hbk)).trans (hcell j hlt)
      have hx1 := lb_lt hx j
      have hj0 : (0 : Int) ≤ (j : Int) := by omega
      have hj1 : (j : Int) < (n : Int) := by omega
      by_cases hlj : lb l j < p
      · have hd : decide ((p : Int) ≤ (lb l j : Nat)) = false := by rw [decide_eq_false_iff_not]; omega
        have HJ2 : Hid (∀ m, m < j + 1 → lb l m < p) := fun m hm => by
          by_cases e : m = j
          · subst e; exact hlj
          · exact HJ.out m (by omega)
        generalize lb l j = x at *
        clear hcell
        go_wp2
        go_round
        case rel => exact ⟨j + 1, by omega, by go_num, HJ2⟩
        case measure => simp [intOf]; omega
      · have hd : decide ((p : Int) ≤ (lb l j : Nat)) = true := by rw [decide_eq_true_iff]; omega
        have hf : b = false := by rw [← HBB.out, decide_eq_false_iff_not]; intro h; exact hlj (h j hlt)
        subst hf
        generalize lb l j = x at *
        clear hcell
        go_wp2
        go_ret
        exact ⟨rfl, HB⟩
    · have ht : b = true := by rw [← HBB.out, decide_eq_true_iff]; intro m hm; exact HJ.out m (by omega)
      subst ht
      clear hcell
      go_wp2
      go_ret
      exact ⟨rfl, HB⟩

theorem rtransN_B (w : World) (i : Int) (v : Value) (b : Bool) (hM : Calls Tryd.prog 44 #[.int .i64 i, v] w fun e w' => e = .returned (.bool false) ∧ Ext w w') :
    Calls Tryd.prog 22 #[.int .i64 i, v, .bool b] w fun e w' => e = .returned (.tuple #[.slice none 0 0, .int .i64 1]) ∧ Ext w w' := by
  go_enter Tryd.func22, Tryd.ntmps22
  go_wp2_with (fail)
  refine hM.mono ?_
  rintro x w1 ⟨rfl, hB⟩
  go_wp2
  go_ret2
  exact ⟨rfl, hB⟩

theorem tr_place (i k : Nat) (b : Bool) (l : List Nat) (W S : Nat) (hW : tw i k b % (fd i).p = W) (hS : ts i k b % (fd i).p = S) (j : Nat) (hj : j < 2 ^ k) :
    lb (tfl i k b l) j = hv l (W ^ j % (fd i).p) (fd i).p (2 ^ k) 0 * S % (fd i).p := by
  rw [tfl_eq, trv_mod, hW, hS, lb_trv _ _ _ _ _ _ hj]
  unfold dv hv
  rw [Nat.sub_zero, Nat.mul_comm S, Nat.mul_mod]
  conv => rhs; rw [Nat.mul_mod, Nat.mod_mod]
  congr 2
  refine nsum_mod _ _ _ _ fun q _ => ?_
  rw [Nat.zero_add, Nat.mul_mod, Nat.mul_comm q j, Nat.pow_mul, ← pow_mod2 (W ^ j), ← Nat.mul_mod]

set_option maxRecDepth 100000 in
set_option maxHeartbeats 4000000 in
theorem rtrans_calls (w : World) (i k : Nat) (hi : i < 3) (hk : k ≤ 16) (v : Value) (l : List Nat) (hl : l.length = 2 ^ k) (hlt : ∀ x ∈ l, x < (fd i).p) (hu : U w v l) (b : Bool) :
    Calls Tryd.prog 22 #[.int .i64 (i : Nat), v, .bool b] w fun e w' => (∃ u, e = .returned (.tuple #[u, .int .i64 0]) ∧ U w' u (tfl i k b l)) ∧ Ext w w' := by
  obtain ⟨n, hn⟩ : ∃ n, l.length = n := ⟨_, rfl⟩
  have hn0 : 0 < n := by rw [← hn, hl]; exact Nat.two_pow_pos k
  have hn1 : n ≤ 65536 := by rw [← hn, hl]; exact Nat.pow_le_pow_right (by decide) hk
  have p0 := (fd_fld i).good.p0
  have p1 := (fd_fld i).good.p1
  obtain ⟨ad, c, hv', hc, hbk, hcell⟩ := hu.opened hn hn0
  subst hv'
  obtain ⟨r, hr⟩ : ∃ r, rt (fd i) k % (fd i).p = r := ⟨_, rfl⟩
  obtain ⟨W, hW⟩ : ∃ W, tw i k b % (fd i).p = W := ⟨_, rfl⟩
  obtain ⟨S, hS⟩ : ∃ S, ts i k b % (fd i).p = S := ⟨_, rfl⟩
  have hM := Lib.hid (may_num w i k hi hk _ l hl hu true (decide_eq_true fun j _ => lb_lt_of (by omega) hlt j))
  have hP := Lib.hid (fun X => rprime_B X i hi (fd i).p rfl)
  have hL := Lib.hid (fun X => log_B X n k (by rw [← hn, hl]) hk)
  have hR := Lib.hid (fun X => rroot_B X i k hi (by omega) r hr)
  have hrp : r < (fd i).p := by rw [← hr]; exact Nat.mod_lt _ (by omega)
  have hWp : W < (fd i).p := by rw [← hW]; exact Nat.mod_lt _ (by omega)
  have hSp : S < (fd i).p := by rw [← hS]; exact Nat.mod_lt _ (by omega)
  have hT := Lib.hid (tr_place i k b l W S hW hS)
  have hTl := Lib.hid (tfl_len i k b l)
  have hTp := Lib.hid (tfl_lt i k b l)
  have hK : Hid (l.length = n ∧ 2 ^ k = n) := ⟨hn, by rw [← hl, hn]⟩
  have hpow : Hid (b = true → (r ^ ((fd i).p - 2) % (fd i).p = W ∧ n ^ ((fd i).p - 2) % (fd i).p = S)) := by
    intro hb
    subst hb
    refine ⟨?_, ?_⟩
    · rw [← hW, ← hr, pow_mod2]; rfl
    · rw [← hS, ← hn, hl]; rfl
  have hnob : Hid (b = false → r = W ∧ 1 = S) := by
    intro hb
    subst hb
    refine ⟨by rw [← hW, ← hr]; rfl, ?_⟩
    rw [← hS]; exact (Nat.mod_eq_of_lt p0).symm
  generalize tfl i k b l = out at *
  generalize (fd i).p = p at *
  have hVa := Lib.hid (fun X y r h hy (hr : hv l y p n 0 = r) => value_B X (.slice (some ad) n c) l y p h (by omega) (by omega) hy r (by rw [hK.out.1]; exact hr))
  have hpw : IntKind.u64.wrap (p : Int) = (p : Int) := by rw [IntKind.wrap_u64]; omega
  have hrw : IntKind.u64.wrap (r : Int) = (r : Int) := by rw [IntKind.wrap_u64]; omega
  have hp2 : (p : Int) - 2 = ((p - 2 : Nat) : Int) := by omega
  have hp2w : IntKind.u64.wrap ((p - 2 : Nat) : Int) = ((p - 2 : Nat) : Int) := by rw [IntKind.wrap_u64]; omega
  have hnw : IntKind.u64.wrap (n : Int) = (n : Int) := by rw [IntKind.wrap_u64]; omega
  have HB := Ext.refl w
  clear hr hW hS hn hl hlt hcell hbk
  cases b
  case false =>
    obtain ⟨e1, e2⟩ := hnob.out rfl
    subst e1 e2
    clear hnob hpow
    go_enter Tryd.func22, Tryd.ntmps22
    go_wp2_with (fail)
    refine hM.out.mono ?_
    rintro x w1 ⟨rfl, hB⟩
    replace HB := HB.below hB
    replace hu := hu.below hB
    clear hB
    go_wp2_with (fail)
    refine (hP.out _).mono ?_
    rintro x w2 ⟨rfl, hB⟩
    replace HB := HB.below hB
    replace hu := hu.below hB
    clear hB
    go_wp2_with (fail)
    refine (hL.out _).mono ?_
    rintro x w3 ⟨rfl, hB⟩
    replace HB := HB.below hB
    replace hu := hu.below hB
    clear hB
    go_wp2_with (fail)
    refine (hR.out _).mono ?_
    rintro x wf ⟨rfl, hB⟩
    replace HB := HB.below hB
    replace hu := hu.below hB
    clear hB
    go_wp2_with (fail)
    have hown0 : Own (wf.alloc (.cells #[] 27)) wf.heap.size (.slice (some ⟨wf.heap.size, 0, none⟩) 0 0) [] := World.ownsRow_lit wf #[] 0 (Nat.le_refl _) (Nat.zero_le _) rfl
    have hB0 : Ext wf (wf.alloc (.cells #[] 27)) := (Below.refl _ _).alloc (Nat.le_refl _) _
    go_loopw [11, 12, 13] (fun s y t wr => ∃ (j : Nat) (o : List Nat), j ≤ n ∧ t = .int .i64 (j : Nat) ∧ y = .int .u64 (r ^ j % p : Nat) ∧ Hid (o.length = j ∧ ∀ q, q < j → lb o q = lb out q) ∧ Own wr wf.heap.size s o ∧ Ext wf wr) (fun _ _ t _ => n - (intOf t).toNat)
    case atStart => exact ⟨0, [], Nat.zero_le _, rfl, by rw [Nat.pow_zero, Nat.mod_eq_of_lt p0]; rfl, ⟨rfl, fun q hq => absurd hq (by omega)⟩, hown0, hB0⟩
    case round =>
      clear hown0 hB0
      obtain ⟨j, o, hj, rfl, rfl, HO, hown, hE⟩ := hrel
      obtain ⟨y, hy⟩ : ∃ y, r ^ j % p = y := ⟨_, rfl⟩
      have hyp : y < p := by rw [← hy]; exact Nat.mod_lt _ (by omega)
      rw [hy]
      by_cases hlt : j < n
      · have hTj := hT.out j (by rw [hK.out.2]; exact hlt)
        rw [hy, hK.out.2] at hTj
        obtain ⟨rv, hrv⟩ : ∃ rv, hv l y p n 0 = rv := ⟨_, rfl⟩
        have hrvp : rv < p := by rw [← hrv]; exact hv_lt _ _ _ _ _ (by omega)
        have hol := HO.out.1
        obtain ⟨z, hz⟩ : ∃ z, rv * 1 = z := ⟨_, rfl⟩
        rw [hrv] at hTj
        rw [hz] at hTj
        have hzr : z = rv := by omega
        subst hzr
        go_wp2_with (fail)
        refine (hVa.out _ y z (hu.below hE) hyp hrv).mono ?_
        rintro x w6 ⟨rfl, hB⟩
        have hownb := hown.below hB (fun g e => (World.ownsRow.lt hown g e).2)
        have hE6 := hE.below hB
        have hz64 : z < 4611686018427387904 := by omega
        have hzw : IntKind.u64.wrap (z : Int) = (z : Int) := by rw [IntKind.wrap_u64]; omega
        obtain ⟨v, hv⟩ : ∃ v, z % p = v := ⟨_, rfl⟩
        have hvi : (z : Int) % (p : Int) = (v : Int) := by rw [← hv, Int.natCast_emod]
        have hvt : ((z : Int)).tmod (p : Int) = (v : Int) := by rw [Int.tmod_eq_emod_of_nonneg (by omega)]; exact hvi
        have hvp : v < p := by rw [← hv]; exact Nat.mod_lt _ (by omega)
        have hvw : IntKind.u32.wrap (v : Int) = (v : Int) := by rw [IntKind.wrap_u32]; omega
        rw [hv] at hTj
        obtain ⟨z2, hz2⟩ : ∃ z2, y * r = z2 := ⟨_, rfl⟩
        have hz2i : (y : Int) * (r : Int) = (z2 : Int) := by rw [← hz2, Int.natCast_mul]
        have hz264 : z2 < 4611686018427387904 := by rw [← hz2]; exact Nat.lt_of_le_of_lt (Nat.mul_le_mul (show y ≤ 1073741823 by omega) (show r ≤ 1073741823 by omega)) (by decide)
        have hz2w : IntKind.u64.wrap (z2 : Int) = (z2 : Int) := by rw [IntKind.wrap_u64]; omega
        obtain ⟨y2, hy2⟩ : ∃ y2, z2 % p = y2 := ⟨_, rfl⟩
        have hy2i : (z2 : Int) % (p : Int) = (y2 : Int) := by rw [← hy2, Int.natCast_emod]
        have hy2t : ((z2 : Int)).tmod (p : Int) = (y2 : Int) := by rw [Int.tmod_eq_emod_of_nonneg (by omega)]; exact hy2i
        have HY : Hid (r ^ (j + 1) % p = y2) := by rw [Hid, ← hy2, ← hz2, ← hy, Nat.pow_succ, mul_mod2]
        have HST : Hid ((o ++ [v]).length = j + 1 ∧ ∀ q, q < j + 1 → lb (o ++ [v]) q = lb out q) := by
          refine ⟨by rw [List.length_append, hol]; rfl, fun q hq => ?_⟩
          rw [lb_snoc]
          by_cases e : q = o.length
          · rw [if_pos e, e, hol, hTj]
          · rw [if_neg e]; exact HO.out.2 q (by omega)
        have hp0a : ¬ ((p : Int) = 0) := by omega
        have hp0b : ¬ (p = 0) := by omega
        have hpz : ((p : Int) == 0) = false := by rw [beq_eq_false_iff_ne]; omega
        obtain ⟨v', w', hrun, hown', hB'⟩ := push_own (Nat.le_refl _) hE6 hownb (v : Int) v rfl (by omega) (by omega)
        obtain ⟨t1, t2, t3⟩ := app_tok hrun
        clear hz hv hrun hTj hrv hB hE hown hownb hE6 HO hol hy hz2 hy2
        go_wp2
        go_roundw
        case rel => exact ⟨j + 1, _, by omega, by go_num, by rw [HY.out], HST, hown', hB'⟩
        case measure => simp [intOf]; omega
      · have hjn : j = n := by omega
        have ho : o = out := ext_lb (by rw [HO.out.1, hTl.out, hK.out.2, hjn]) fun q hq => HO.out.2 q (by rw [← HO.out.1]; exact hq)
        subst ho
        have hU := hown.toU (fun x hx => Nat.lt_trans (hTp.out x hx) (by omega)) (by rw [HO.out.1]; omega)
        replace HB := HB.below hE
        obtain ⟨g, c3, hv3⟩ := hown.shape (by rw [HO.out.1]; omega)
        subst hv3
        have HF : Hid (∃ u', Ending.returned (.tuple #[.slice (some ⟨g, 0, none⟩) o.length c3, .int .i64 0]) = .returned (.tuple #[u', .int .i64 0]) ∧ U wr u' o) := ⟨_, rfl, hU⟩
        clear hU hown hE hy
        go_wp2
        go_ret2
        exact ⟨HF.out, HB⟩
  case true =>
    have hQ1 := Lib.hid (fun X => rpow_B X r (p - 2) p p0 (by omega) (by omega) (by omega) W (hpow.out rfl).1)
    have hQ2 := Lib.hid (fun X => rpow_B X n (p - 2) p p0 (by omega) (by omega) (by omega) S (hpow.out rfl).2)
    clear hnob hpow
    go_enter Tryd.func22, Tryd.ntmps22
    go_wp2_with (fail)
    refine hM.out.mono ?_
    rintro x w1 ⟨rfl, hB⟩
    replace HB := HB.below hB
    replace hu := hu.below hB
    clear hB
    go_wp2_with (fail)
    refine (hP.out _).mono ?_
    rintro x w2 ⟨rfl, hB⟩
    replace HB := HB.below hB
    replace hu := hu.below hB
    clear hB
    go_wp2_with (fail)
    refine (hL.out _).mono ?_
    rintro x w3 ⟨rfl, hB⟩
    replace HB := HB.below hB
    replace hu := hu.below hB
    clear hB
    go_wp2_with (fail)
    refine (hR.out _).mono ?_
    rintro x w4 ⟨rfl, hB⟩
    replace HB := HB.below hB
    replace hu := hu.below hB
    clear hB
    go_wp2_with (fail)
    refine (hQ1.out _).mono ?_
    rintro x w5 ⟨rfl, hB⟩
    replace HB := HB.below hB
    replace hu := hu.below hB
    clear hB
    go_wp2_with (fail)
    refine (hQ2.out _).mono ?_
    rintro x wf ⟨rfl, hB⟩
    replace HB := HB.below hB
    replace hu := hu.below hB
    clear hB
    go_wp2_with (fail)
    have hown0 : Own (wf.alloc (.cells #[] 27)) wf.heap.size (.slice (some ⟨wf.heap.size, 0, none⟩) 0 0) [] := World.ownsRow_lit wf #[] 0 (Nat.le_refl _) (Nat.zero_le _) rfl
    have hB0 : Ext wf (wf.alloc (.cells #[] 27)) := (Below.refl _ _).alloc (Nat.le_refl _) _
    go_loopw [11, 12, 13] (fun s y t wr => ∃ (j : Nat) (o : List Nat), j ≤ n ∧ t = .int .i64 (j : Nat) ∧ y = .int .u64 (W ^ j % p : Nat) ∧ Hid (o.length = j ∧ ∀ q, q < j → lb o q = lb out q) ∧ Own wr wf.heap.size s o ∧ Ext wf wr) (fun _ _ t _ => n - (intOf t).toNat)
    case atStart => exact ⟨0, [], Nat.zero_le _, rfl, by rw [Nat.pow_zero, Nat.mod_eq_of_lt p0]; rfl, ⟨rfl, fun q hq => absurd hq (by omega)⟩, hown0, hB0⟩
    case round =>
      clear hown0 hB0
      obtain ⟨j, o, hj, rfl, rfl, HO, hown, hE⟩ := hrel
      obtain ⟨y, hy⟩ : ∃ y, W ^ j % p = y := ⟨_, rfl⟩
      have hyp : y < p := by rw [← hy]; exact Nat.mod_lt _ (by omega)
      rw [hy]
      by_cases hlt : j < n
      · have hTj := hT.out j (by rw [hK.out.2]; exact hlt)
        rw [hy, hK.out.2] at hTj
        obtain ⟨rv, hrv⟩ : ∃ rv, hv l y p n 0 = rv := ⟨_, rfl⟩
        have hrvp : rv < p := by rw [← hrv]; exact hv_lt _ _ _ _ _ (by omega)
        have hol := HO.out.1
        obtain ⟨z, hz⟩ : ∃ z, rv * S = z := ⟨_, rfl⟩
        go_wp2_with (fail)
        refine (hVa.out _ y rv (hu.below hE) hyp hrv).mono ?_
        rintro x w6 ⟨rfl, hB⟩
        rw [hrv] at hTj
        have hownb := hown.below hB (fun g e => (World.ownsRow.lt hown g e).2)
        have hE6 := hE.below hB
        have hzi : (rv : Int) * (S : Int) = (z : Int) := by rw [← hz, Int.natCast_mul]
        have hz64 : z < 4611686018427387904 := by rw [← hz]; exact Nat.lt_of_le_of_lt (Nat.mul_le_mul (show rv ≤ 1073741823 by omega) (show S ≤ 1073741823 by omega)) (by decide)
        have hzw : IntKind.u64.wrap (z : Int) = (z : Int) := by rw [IntKind.wrap_u64]; omega
        obtain ⟨v, hv⟩ : ∃ v, z % p = v := ⟨_, rfl⟩
        have hvi : (z : Int) % (p : Int) = (v : Int) := by rw [← hv, Int.natCast_emod]
        have hvt : ((z : Int)).tmod (p : Int) = (v : Int) := by rw [Int.tmod_eq_emod_of_nonneg (by omega)]; exact hvi
        have hvp : v < p := by rw [← hv]; exact Nat.mod_lt _ (by omega)
        have hvw : IntKind.u32.wrap (v : Int) = (v : Int) := by rw [IntKind.wrap_u32]; omega
        rw [hz, hv] at hTj
        obtain ⟨z2, hz2⟩ : ∃ z2, y * W = z2 := ⟨_, rfl⟩
        have hz2i : (y : Int) * (W : Int) = (z2 : Int) := by rw [← hz2, Int.natCast_mul]
        have hz264 : z2 < 4611686018427387904 := by rw [← hz2]; exact Nat.lt_of_le_of_lt (Nat.mul_le_mul (show y ≤ 1073741823 by omega) (show W ≤ 1073741823 by omega)) (by decide)
        have hz2w : IntKind.u64.wrap (z2 : Int) = (z2 : Int) := by rw [IntKind.wrap_u64]; omega
        obtain ⟨y2, hy2⟩ : ∃ y2, z2 % p = y2 := ⟨_, rfl⟩
        have hy2i : (z2 : Int) % (p : Int) = (y2 : Int) := by rw [← hy2, Int.natCast_emod]
        have hy2t : ((z2 : Int)).tmod (p : Int) = (y2 : Int) := by rw [Int.tmod_eq_emod_of_nonneg (by omega)]; exact hy2i
        have HY : Hid (W ^ (j + 1) % p = y2) := by rw [Hid, ← hy2, ← hz2, ← hy, Nat.pow_succ, mul_mod2]
        have HST : Hid ((o ++ [v]).length = j + 1 ∧ ∀ q, q < j + 1 → lb (o ++ [v]) q = lb out q) := by
          refine ⟨by rw [List.length_append, hol]; rfl, fun q hq => ?_⟩
          rw [lb_snoc]
          by_cases e : q = o.length
          · rw [if_pos e, e, hol, hTj]
          · rw [if_neg e]; exact HO.out.2 q (by omega)
        have hp0a : ¬ ((p : Int) = 0) := by omega
        have hp0b : ¬ (p = 0) := by omega
        have hpz : ((p : Int) == 0) = false := by rw [beq_eq_false_iff_ne]; omega
        obtain ⟨v', w', hrun, hown', hB'⟩ := push_own (Nat.le_refl _) hE6 hownb (v : Int) v rfl (by omega) (by omega)
        obtain ⟨t1, t2, t3⟩ := app_tok hrun
        clear hz hv hrun hTj hrv hB hE hown hownb hE6 HO hol hy hz2 hy2
        go_wp2
        go_roundw
        case rel => exact ⟨j + 1, _, by omega, by go_num, by rw [HY.out], HST, hown', hB'⟩
        case measure => simp [intOf]; omega
      · have hjn : j = n := by omega
        have ho : o = out := ext_lb (by rw [HO.out.1, hTl.out, hK.out.2, hjn]) fun q hq => HO.out.2 q (by rw [← HO.out.1]; exact hq)
        subst ho
        have hU := hown.toU (fun x hx => Nat.lt_trans (hTp.out x hx) (by omega)) (by rw [HO.out.1]; omega)
        replace HB := HB.below hE
        obtain ⟨g, c3, hv3⟩ := hown.shape (by rw [HO.out.1]; omega)
        subst hv3
        have HF : Hid (∃ u', Ending.returned (.tuple #[.slice (some ⟨g, 0, none⟩) o.length c3, .int .i64 0]) = .returned (.tuple #[u', .int .i64 0]) ∧ U wr u' o) := ⟨_, rfl, hU⟩
        clear hU hown hE hy
        go_wp2
        go_ret2
        exact ⟨HF.out, HB⟩
theorem rtrans_B (w : World) (i k : Nat) (hi : i < 3) (hk : k ≤ 16) (v : Value) (l : List Nat) (hl : l.length = 2 ^ k) (hlt : ∀ x ∈ l, x < (fd i).p) (hu : U w v l) (b : Bool) :
    Calls Tryd.prog 22 #[.int .i64 (i : Nat), v, .bool b] w fun e w' => ∃ u, e = .returned (.tuple #[u, .int .i64 0]) ∧ U w' u (tfl i k b l) ∧ Ext w w' :=
  (rtrans_calls w i k hi hk v l hl hlt hu b).mono fun e w' ⟨⟨u, h1, h2⟩, h3⟩ => ⟨u, h1, h2, h3⟩
end Go.Proofs.YtofhpfmgopmcmaaDoor
