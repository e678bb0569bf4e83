/- Proved: the statement NttAround: whatever numbers: what the transform makes of the products of two transforms, turned back, is the sums of products all around. No condition. -/
import Derived.Test.YtofhpfmgopmcmaaDoorL5
namespace Go.Proofs.YtofhpfmgopmcmaaDoor
open Go.RowKit
set_option linter.unusedVariables false
set_option maxHeartbeats 400000
attribute [local go_sem ↓] app_shut
attribute [local go_sem] run_append_tok

/-- The first j products. -/
structure BothA (p : Nat) (a b : List Nat) (j : Nat) (o : List Nat) : Prop where
  len : o.length = j
  lt : ∀ x ∈ o, x < p
  at_ : ∀ q, q < j → lb o q = lb a q * lb b q % p
theorem BothA.start (p : Nat) (a b : List Nat) : BothA p a b 0 [] := ⟨rfl, by simp, fun q hq => by omega⟩
theorem BothA.step {p : Nat} {a b : List Nat} {j : Nat} {o : List Nat} (H : BothA p a b j o) (hp : 0 < p) : BothA p a b (j + 1) (o ++ [lb a j * lb b j % p]) := by
  refine ⟨by simp [H.len], snoc_lt H.lt (Nat.mod_lt _ hp), fun q hq => ?_⟩
  rw [lb_snoc, H.len]
  by_cases e : q = j
  · subst e; rw [if_pos rfl]
  · rw [if_neg e]; exact H.at_ q (by omega)
/-- The first t terms of a sum around. -/
def arp (p n : Nat) (l m : List Nat) (k t : Nat) : Nat := nsum t (fun t => lb l t * lb m ((k + n - t) % n)) % p
theorem arp_step (p n : Nat) (l m : List Nat) (k t : Nat) : arp p n l m k (t + 1) = (arp p n l m k t + lb l t * lb m ((k + n - t) % n)) % p := by
  unfold arp
  rw [nsum, Nat.mod_add_mod]

set_option maxRecDepth 100000 in
set_option maxHeartbeats 4000000 in
theorem NttAround_walk (w : World) (hg : Gl w) (I K : Int) (sl : Value) (bk : Bool) (xs : List Nat) (hI : (Lit.int .i64 I).wf = true) (hK : (Lit.int .i64 K).wf = true) (hu : U w sl xs) (vm : Value) (ms : List Nat) (hm : U w vm ms) :
    Calls Tryd.prog 7 #[.agg #[.int .i64 I, .int .i64 K, sl, .bool bk], vm] w fun e w' => e = .returned (.bool true) ∧ Ext w w' := by
  obtain ⟨A, c, hsl, hc⟩ := hu.shape
  subst hsl
  obtain ⟨i, hi⟩ : ∃ i, ri I = i := ⟨_, rfl⟩
  obtain ⟨k, hk⟩ : ∃ k, rk K 6 = k := ⟨_, rfl⟩
  have hi3 : i < 3 := by rw [← hi]; exact ri_lt I
  have hk10 : k ≤ 6 := by rw [← hk]; exact rk_le K 6
  obtain ⟨n, hn⟩ : ∃ n, 2 ^ k = n := ⟨_, rfl⟩
  have hn0 : 0 < n := by rw [← hn]; exact Nat.two_pow_pos k
  have hn1 : n ≤ 64 := by rw [← hn]; exact Nat.pow_le_pow_right (n := 2) (by decide) hk10
  have p0 := (fd_fld i).good.p0
  have p1 := (fd_fld i).good.p1
  have HI := Lib.hid hi
  have HK := Lib.hid hk
  have HN := Lib.hid hn
  have hE0 := (Ext.refl w).alloc (.cells #[.int .i64 I, .int .i64 K, .slice A xs.length c, .bool bk] 24)
  have hg0 := hg
  have HX := Ax.new w I K A xs.length c bk
  have HB := hE0
  replace hu := hu.below hE0
  replace hg := hg.ext hE0
  replace hm := hm.below hE0
  clear hi hk hn hE0
  generalize xs.length = L at *
  go_enter Tryd.func7, Tryd.ntmps7
  go_wp2_with (fail)
  refine (head_calls _ hg).mono ?_
  rintro e w1 ⟨rfl, hB⟩
  replace HB := HB.below hB
  replace hg := hg.ext hB
  replace hm := hm.below hB
  replace hu := hu.below hB
  replace HX := HX.ext hB
  clear hB
  obtain ⟨b0, b1, b2, b3, b4⟩ := id HX
  go_wp2_with (fail)
  refine (row_B _ I K _ bk xs hI hK hu 6 (by decide) i k HI.out HK.out).mono ?_
  rintro e w2 ⟨u1, rfl, hu1, hB⟩
  replace HB := HB.below hB
  replace hg := hg.ext hB
  replace hm := hm.below hB
  replace HX := HX.ext hB
  clear hB b0 b1 b2 b3 b4 hu
  have HL1 := Lib.hid (rowv_len (fd i).p k xs)
  have HL2 := Lib.hid (rowv_lt (fd i).p k xs (by omega))
  generalize rowv (fd i).p k xs = l at *
  obtain ⟨ad1, c1, hv1, hcc1, hb1, hce1⟩ := hu1.opened (by rw [HL1.out, HN.out]) hn0
  subst hv1
  clear hce1
  obtain ⟨p, hpp⟩ : ∃ p, (fd i).p = p := ⟨_, rfl⟩
  have hP := Lib.hid (fun W => rprime_B W i hi3 p hpp)
  have HPP := Lib.hid hpp
  have hRR := Lib.hid (fun W hu => rrow_B W i k hi3 (by omega) vm ms hu)
  have HM1 := Lib.hid (rowv_len (fd i).p k ms)
  have HM2 := Lib.hid (rowv_lt (fd i).p k ms (by omega))
  have HTL := Lib.hid (fun m o ho j hj => tfl_around i k l m o (by omega) ho j hj)
  generalize rowv (fd i).p k ms = m at *
  have hTA := Lib.hid (fun W hg hu => tA_B W hg i k hi3 (by omega) (.slice (some ad1) n c1) l HL1.out HL2.out hu false)
  have HA1 := Lib.hid (tfl_len i k false l)
  have HA2 := Lib.hid (tfl_lt i k false l)
  have HC1 := Lib.hid (tfl_len i k false m)
  have HC2 := Lib.hid (tfl_lt i k false m)
  have HTL2 := Lib.hid (fun o ho j hj => HTL.out m o ho j hj)
  rw [hpp] at p0 p1 HL2 HM2 HA2 HC2 HTL2
  generalize tfl i k false l = a at *
  clear hpp HTL
  go_wp2_with (fail)
  refine (hP.out _).mono ?_
  rintro e w3 ⟨rfl, hB⟩
  replace HX := HX.ext hB
  replace HB := HB.below hB
  replace hg := hg.ext hB
  replace hm := hm.below hB
  replace hu1 := hu1.below hB
  clear hB hb1
  go_wp2_with (fail)
  refine (log_B _ n k HN.out.symm (by omega)).mono ?_
  rintro e w4 ⟨rfl, hB⟩
  replace HX := HX.ext hB
  replace HB := HB.below hB
  replace hg := hg.ext hB
  replace hm := hm.below hB
  replace hu1 := hu1.below hB
  clear hB
  go_wp2_with (fail)
  refine (hRR.out _ hm).mono ?_
  rintro e w5 ⟨u2, rfl, hu2, hB⟩
  replace HX := HX.ext hB
  replace HB := HB.below hB
  replace hg := hg.ext hB
  replace hu1 := hu1.below hB
  clear hB hm
  obtain ⟨ad2, c2, hv2, hcc2, hb2, hce2⟩ := hu2.opened (by rw [HM1.out, HN.out]) hn0
  subst hv2
  clear HX hb2 hce2
  have hTC := Lib.hid (fun W hg hu => tA_B W hg i k hi3 (by omega) (.slice (some ad2) n c2) m HM1.out (by rw [HPP.out]; exact HM2.out) hu false)
  generalize tfl i k false m = b at *
  have hown0 : Own (w5.alloc (.cells #[] 27)) w5.heap.size (.slice (some ⟨w5.heap.size, 0, none⟩) 0 0) [] := World.ownsRow_lit w5 #[] 0 (Nat.le_refl _) (Nat.zero_le _) rfl
  obtain ⟨B, hBB⟩ : ∃ B, w5.heap.size = B := ⟨_, rfl⟩
  have hr1 := hu1
  have hr2 := hu2
  have HBB := Lib.hid hBB
  have hwB : w.heap.size ≤ B := by have := HB.size; omega
  have hE0 : Ext w5 (w5.alloc (.cells #[] 27)) := (Ext.refl w5).alloc _
  have hbare : (w5.alloc (.cells #[] 27)).heap[B]? = some (.cells #[] 27) := by rw [← hBB]; show (w5.heap.push _)[w5.heap.size]? = _; simp
  have hbsz : B < (w5.alloc (.cells #[] 27)).heap.size := by rw [← hBB]; simp
  replace HB := HB.below hE0
  replace hg := hg.ext hE0
  replace hu1 := hu1.below hE0
  replace hu2 := hu2.below hE0
  have HE := Lib.hid hE0
  clear hE0
  go_wp2_with (fail)
  rw [hBB] at hown0
  clear hBB
  generalize w5.alloc (.cells #[] 27) = w6 at *
  refine (hTA.out _ hg hu1).mono ?_
  rintro e w7 ⟨u4, rfl, hu4, hB⟩
  replace HE := Lib.hid (HE.out.below hB)
  replace HB := HB.below hB
  replace hg := hg.ext hB
  replace hu1 := hu1.below hB
  replace hu2 := hu2.below hB
  replace hown0 := hown0.below hB (fun g e => (World.ownsRow.lt hown0 g e).2)
  replace hbare := (hB.block B hbsz).trans hbare
  replace hbsz := Nat.lt_of_lt_of_le hbsz hB.size
  clear hB
  obtain ⟨ad4, c4, hv4, hcc4, hb4, hce4⟩ := hu4.opened (by rw [HA1.out, HN.out]) hn0
  subst hv4
  clear hce4 hb4
  go_wp2_with (fail)
  refine (hTC.out _ hg hu2).mono ?_
  rintro e w8 ⟨u5, rfl, hu5, hB⟩
  replace HE := Lib.hid (HE.out.below hB)
  replace HB := HB.below hB
  replace hg := hg.ext hB
  replace hu1 := hu1.below hB
  replace hu2 := hu2.below hB
  replace hu4 := hu4.below hB
  replace hown0 := hown0.below hB (fun g e => (World.ownsRow.lt hown0 g e).2)
  replace hbare := (hB.block B hbsz).trans hbare
  replace hbsz := Nat.lt_of_lt_of_le hbsz hB.size
  clear hB
  obtain ⟨ad5, c5, hv5, hcc5, hb5, hce5⟩ := hu5.opened (by rw [HC1.out, HN.out]) hn0
  subst hv5
  obtain ⟨ad7, c7, hv7, hcc7, hb4, hce4⟩ := hu4.opened (by rw [HA1.out, HN.out]) hn0
  injection hv7 with q1 q2 q3
  injection q1 with q1
  subst q1 q3
  clear q2
  have hne4 : ad4.block ≠ B := fun e => by
    have h1 := hce4 0 hn0
    rw [bare_cell w8 _ 27 (by rw [addr_add_block, e]; exact hbare)] at h1
    cases h1
  have hne5 : ad5.block ≠ B := fun e => by
    have h1 := hce5 0 hn0
    rw [bare_cell w8 _ 27 (by rw [addr_add_block, e]; exact hbare)] at h1
    cases h1
  have hnn : ((n : Int) != (n : Int)) = false := by simp
  have hpz : ((p : Int) == 0) = false := by rw [beq_eq_false_iff_ne]; omega
  have hp0a : ¬ ((p : Int) = 0) := by omega
  have hp0b : ¬ (p = 0) := by omega
  have hA0 : Apart B w8 w8 (.slice (some ⟨B, 0, none⟩) 0 0) [] := ⟨hown0, But.refl _ _, fun g e => by left; simpa [Value.ownBlock] using e.symm⟩
  clear hown0 hbare
  go_wp2
  go_loopw [10, 15] (fun s t wr => ∃ (j : Nat) (o : List Nat), j ≤ n ∧ t = .int .i64 (j : Nat) ∧ Hid (BothA p a b j o) ∧ Apart B w8 wr s o) (fun _ t _ => n - (intOf t).toNat)
  case atStart => exact ⟨0, [], Nat.zero_le _, rfl, BothA.start p a b, hA0⟩
  case round =>
    clear hA0
    obtain ⟨j, o, hj, rfl, HO, hown⟩ := hrel
    by_cases hlt : j < n
    · have hca := (hown.cell (p := ad4.add j) (by rw [addr_add_block]; exact hb4) (by rw [addr_add_block]; exact hne4)).trans (hce4 j hlt)
      have hcb := (hown.cell (p := ad5.add j) (by rw [addr_add_block]; exact hb5) (by rw [addr_add_block]; exact hne5)).trans (hce5 j hlt)
      have HST := Lib.hid (HO.out.step (by omega))
      have hx1 : lb a j < p := lb_lt_of (by omega) HA2.out _
      have hy1 : lb b j < p := lb_lt_of (by omega) HC2.out _
      have hol : o.length = j := HO.out.len
      generalize lb a j = x at *
      generalize lb b j = y at *
      obtain ⟨z, hz⟩ : ∃ z, x * y = z := ⟨_, rfl⟩
      have hzi : (x : Int) * (y : Int) = (z : Int) := by rw [← hz, Int.natCast_mul]
      have hz64 : z < 4611686018427387904 := by rw [← hz]; exact Nat.lt_of_le_of_lt (Nat.mul_le_mul (Nat.le_of_lt hx1) (Nat.le_of_lt hy1)) (by have := Nat.mul_le_mul (Nat.le_of_lt p1) (Nat.le_of_lt p1); omega)
      obtain ⟨v, hv⟩ : ∃ v, z % p = v := ⟨_, rfl⟩
      rw [hz, hv] at HST
      have hvp : v < p := by rw [← hv]; exact Nat.mod_lt _ (by omega)
      have hzw : IntKind.u64.wrap (z : Int) = (z : Int) := by rw [IntKind.wrap_u64]; omega
      have hse : (z : Int) % (p : Int) = (v : Int) := by rw [← hv, Int.natCast_emod]
      have hst : ((z : Int)).tmod (p : Int) = (v : Int) := by rw [Int.tmod_eq_emod_of_nonneg (by omega)]; exact hse
      have hvw : IntKind.u64.wrap (v : Int) = (v : Int) := by rw [IntKind.wrap_u64]; omega
      have hvw2 : IntKind.u32.wrap (v : Int) = (v : Int) := by rw [IntKind.wrap_u32]; omega
      have hxw : IntKind.u64.wrap (x : Int) = (x : Int) := by rw [IntKind.wrap_u64]; omega
      have hyw : IntKind.u64.wrap (y : Int) = (y : Int) := by rw [IntKind.wrap_u64]; omega
      have hj0 : (0 : Int) ≤ (j : Int) := by omega
      have hj1 : (j : Int) < (n : Int) := by omega
      obtain ⟨v', w', hrun, hown'⟩ := push_apart (w := wr.drew) (Nat.le_of_lt hbsz) hown.drew (v : Int) v rfl (by omega) (by omega)
      have hrun2 : (Builtin.append_ #[22, 22] 22 #[_, .slice (some ⟨wr.heap.size, 0, none⟩) 1 1]).run Tryd.prog ((wr.alloc (.cells #[.int .u32 (v : Int)] 27)).drew) = .ok v' w' := hrun
      obtain ⟨t1, t2, t3⟩ := app_tok hrun2
      clear hz hv hrun hrun2 hce4 hce5 HO hol
      go_wp2
      go_region
      go_wp2
      go_roundw
      case rel => exact ⟨j + 1, _, by omega, by go_num, HST, hown'⟩
      case measure => simp [intOf]; omega
    · have hjn : j = n := by omega
      subst hjn
      clear hlt hj hce4 hce5
      have HO1 := Lib.hid HO.out.len
      have HO2 := Lib.hid HO.out.lt
      have HO3 := Lib.hid HO.out.at_
      have HT2 := Lib.hid (fun q hq => HTL2.out o (fun t ht => HO3.out t (by rw [← HN.out]; exact ht)) q hq)
      obtain ⟨g, c3, hv3⟩ := hown.own.shape (by rw [HO1.out]; exact hn0)
      rw [HO1.out] at hv3
      subst hv3
      have hu3 := hown.own.toU (fun y hy => Nat.lt_trans (HO2.out y hy) (by omega)) (by rw [HO1.out]; omega)
      have hTE := Lib.hid (fun W hg hu => tA_B W hg i k hi3 (by omega) (.slice (some ⟨g, 0, none⟩) j c3) o (by rw [HO1.out, HN.out]) (by rw [HPP.out]; exact HO2.out) hu true)
      have HE1 := Lib.hid (tfl_len i k true o)
      have HE2 := Lib.hid (tfl_lt i k true o)
      rw [HPP.out] at HE2
      have hbw := hown.but.below (Nat.le_refl B) (Nat.le_of_lt hbsz)
      replace HB : Ext w wr := Below.trans HB (hbw.mono hwB)
      have hgr := hg0.ext HB
      replace HE := Lib.hid (HE.out.trans (by rw [HBB.out]; exact hbw))
      replace hr1 := hr1.below HE.out
      replace hr2 := hr2.below HE.out
      clear hbw hown hg hu1 hu2 hu4 hu5 HO
      go_wp2_with (fail)
      refine (hTE.out _ hgr hu3).mono ?_
      rintro e w9 ⟨u6, rfl, hu6, hB⟩
      replace HB := HB.below hB
      replace hr1 := hr1.below hB
      replace hr2 := hr2.below hB
      clear hB hu3 hgr
      generalize tfl i k true o = d at *
      obtain ⟨ad6, c6, hv6, hcc6, hb6, hce6⟩ := hu6.opened (by rw [HE1.out, HN.out]) hn0
      subst hv6
      obtain ⟨ad8, c8, hv8, hcc8, hb8, hce1⟩ := hr1.opened (by rw [HL1.out, HN.out]) hn0
      injection hv8 with q1 q2 q3
      injection q1 with q1
      subst q1 q3
      clear q2
      obtain ⟨ad9, c9, hv9, hcc9, hb9, hce2⟩ := hr2.opened (by rw [HM1.out, HN.out]) hn0
      injection hv9 with q1 q2 q3
      injection q1 with q1
      subst q1 q3
      clear q2 hr1 hr2 hu6 HE
      go_wp2
      go_loopw [18] (fun t wr => ∃ q : Nat, q ≤ j ∧ t = .int .i64 (q : Nat) ∧ ∃ m, wr = w9.drewN m) (fun t _ => j - (intOf t).toNat)
      case atStart => exact ⟨0, Nat.zero_le _, rfl, 0, rfl⟩
      case round =>
        obtain ⟨q, hq, rfl, m', rfl⟩ := hrel
        by_cases hlt : q < j
        · have hcd := hce6 q hlt
          have ht := HT2.out q (by rw [HN.out]; exact hlt)
          have hdp : lb d q < p := lb_lt_of (by omega) HE2.out _
          generalize lb d q = v at *
          rw [HN.out] at ht
          have HT := Lib.hid (show v = arp p j l m q j from ht)
          clear ht
          go_wp2
          go_loopw [19, 20] (fun s t wr => ∃ r : Nat, r ≤ j ∧ s = .int .u64 (arp p j l m q r : Nat) ∧ t = .int .i64 (r : Nat) ∧ ∃ m, wr = w9.drewN m) (fun _ t _ => j - (intOf t).toNat)
          case atStart => exact ⟨0, Nat.zero_le _, by unfold arp nsum; rw [Nat.zero_mod]; rfl, rfl, m', rfl⟩
          case round =>
            obtain ⟨r, hr, rfl, rfl, m'', rfl⟩ := hrel
            by_cases hlr : r < j
            · have hca := hce1 r hlr
              have hsp : arp p j l m q r < p := Nat.mod_lt _ (by omega)
              have hst := Lib.hid (arp_step p j l m q r)
              obtain ⟨e, he⟩ : ∃ e, (q + j - r) % j = e := ⟨_, rfl⟩
              have hej : e < j := by rw [← he]; exact Nat.mod_lt _ hn0
              have hcb := hce2 e hej
              rw [he] at hst
              have hx1 : lb l r < p := lb_lt_of (by omega) HL2.out _
              have hy1 : lb m e < p := lb_lt_of (by omega) HM2.out _
              obtain ⟨S, hS⟩ : ∃ S, arp p j l m q r = S := ⟨_, rfl⟩
              rw [hS] at hst hsp ⊢
              obtain ⟨x, hx⟩ : ∃ x, lb l r = x := ⟨_, rfl⟩
              obtain ⟨y, hy⟩ : ∃ y, lb m e = y := ⟨_, rfl⟩
              rw [hx] at hca hx1 hst
              rw [hy] at hcb hy1 hst
              obtain ⟨z, hz⟩ : ∃ z, x * y = z := ⟨_, rfl⟩
              have hzi : (x : Int) * (y : Int) = (z : Int) := by rw [← hz, Int.natCast_mul]
              have hz64 : z < 4611686018427387904 := by rw [← hz]; exact Nat.lt_of_le_of_lt (Nat.mul_le_mul (Nat.le_of_lt hx1) (Nat.le_of_lt hy1)) (by have := Nat.mul_le_mul (Nat.le_of_lt p1) (Nat.le_of_lt p1); omega)
              obtain ⟨v2, hv2⟩ : ∃ v2, (S + z) % p = v2 := ⟨_, rfl⟩
              rw [hz, hv2] at hst
              have hv2p : v2 < p := by rw [← hv2]; exact Nat.mod_lt _ (by omega)
              have hzw : IntKind.u64.wrap (z : Int) = (z : Int) := by rw [IntKind.wrap_u64]; omega
              have hsw : IntKind.u64.wrap ((S : Int) + (z : Int)) = (S : Int) + (z : Int) := by rw [IntKind.wrap_u64]; omega
              have hse : ((S : Int) + (z : Int)) % (p : Int) = (v2 : Int) := by rw [← hv2, Int.natCast_emod, Int.natCast_add]
              have hst2 : ((S : Int) + (z : Int)).tmod (p : Int) = (v2 : Int) := by rw [Int.tmod_eq_emod_of_nonneg (by omega)]; exact hse
              have hvw : IntKind.u64.wrap (v2 : Int) = (v2 : Int) := by rw [IntKind.wrap_u64]; omega
              have hxw : IntKind.u64.wrap (x : Int) = (x : Int) := by rw [IntKind.wrap_u64]; omega
              have hyw : IntKind.u64.wrap (y : Int) = (y : Int) := by rw [IntKind.wrap_u64]; omega
              have hi1 : IntKind.i64.wrap ((q : Int) + (j : Int)) = (q : Int) + (j : Int) := by rw [IntKind.wrap_i64]; omega
              have hi2 : IntKind.i64.wrap ((q : Int) + (j : Int) - (r : Int)) = (q : Int) + (j : Int) - (r : Int) := by rw [IntKind.wrap_i64]; omega
              have hi3' : ((q : Int) + (j : Int) - (r : Int)) % (j : Int) = (e : Int) := by rw [← he, Int.natCast_emod]; congr 1; omega
              have hi4 : ((q : Int) + (j : Int) - (r : Int)).tmod (j : Int) = (e : Int) := by rw [Int.tmod_eq_emod_of_nonneg (by omega)]; exact hi3'
              have hi5 : IntKind.i64.wrap (e : Int) = (e : Int) := by rw [IntKind.wrap_i64]; omega
              have hjz : ¬ ((j : Int) = 0) := by omega
              have hjz2 : ¬ (j = 0) := by omega
              have hjz3 : ((j : Int) == 0) = false := by rw [beq_eq_false_iff_ne]; omega
              have hj0 : (0 : Int) ≤ (r : Int) := by omega
              have hj1 : (r : Int) < (j : Int) := by omega
              have hj2 : (0 : Int) ≤ (e : Int) := by omega
              have hj3 : (e : Int) < (j : Int) := by omega
              clear hS hx hy hz hv2 he hce1 hce2 hce6
              go_wp2
              go_region
              go_wp2
              go_roundw
              case rel => exact ⟨r + 1, by omega, by rw [hst.out], by go_num, m'' + 1, rfl⟩
              case measure => simp [intOf]; omega
            · have hrj : r = j := by omega
              subst hrj
              have hcd2 : (w9.drewN m'').cell? (ad6.add q) = some (.int .u32 (v : Nat)) := hcd
              have hvw : IntKind.u64.wrap (v : Int) = (v : Int) := by rw [IntKind.wrap_u64]; omega
              have hvv : ((v : Int) != (v : Int)) = false := by simp
              have hj0 : (0 : Int) ≤ (q : Int) := by omega
              have hj1 : (q : Int) < (r : Int) := by omega
              rw [← HT.out]
              clear hce1 hce2 hce6
              go_wp2
              go_roundw
              case rel => exact ⟨q + 1, by omega, by go_num, m'', rfl⟩
              case measure => simp [intOf]; omega
        · have hE5 : Ext w9 (w9.drewN m') := ext_drewN w9 m'
          replace HB := HB.below hE5
          clear hce1 hce2 hce6 hE5
          go_wp2
          go_ret
          exact ⟨rfl, HB⟩
end Go.Proofs.YtofhpfmgopmcmaaDoor
