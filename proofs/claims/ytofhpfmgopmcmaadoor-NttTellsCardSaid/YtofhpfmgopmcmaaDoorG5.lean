/- The transform, back. -/
import Derived.Test.YtofhpfmgopmcmaaDoorG4
namespace Go.Proofs.YtofhpfmgopmcmaaDoor
open Go.RowKit
set_option linter.unusedVariables false
set_option maxHeartbeats 400000
attribute [local go_sem ↓] app_shut
attribute [local go_sem] run_append_tok

/-- Behind m rounds each of these numbers is times S. -/
structure Bk (f : Fd) (n S m : Nat) (l o : List Nat) : Prop where
  len : o.length = n
  lt : ∀ x ∈ o, x < f.p
  at_ : ∀ i, lb o i = if i < m then mm f (lb l i) (mont f S) else lb l i
theorem Bk.start {f : Fd} {n S : Nat} {l : List Nat} (h : l.length = n) (hl : ∀ x ∈ l, x < f.p) : Bk f n S 0 l l := ⟨h, hl, fun i => by rw [if_neg (by omega)]⟩
theorem Bk.step {f : Fd} {n S m : Nat} {l o : List Nat} (H : Bk f n S m l o) (hf : Good f) (hm : m < n) : Bk f n S (m + 1) l (o.set m (mm f (lb o m) (mont f S))) := by
  refine ⟨by simp [H.len], set_lt H.lt (mm_lt f hf _ _), fun i => ?_⟩
  have e0 : lb o m = lb l m := by rw [H.at_ m, if_neg (Nat.lt_irrefl m)]
  rw [lb_set _ _ _ _ (by rw [H.len]; exact hm), e0]
  by_cases e : m = i
  · subst e; rw [if_pos rfl, if_pos (by omega)]
  · rw [if_neg e, H.at_ i]
    by_cases c : i < m
    · rw [if_pos c, if_pos (by omega)]
    · rw [if_neg c, if_neg (by omega)]
theorem TrOut.times {f : Fd} {k W S : Nat} {l o6 o : List Nat} (h : TrOut f k W 1 l o6) (hf : Good f) (H : Bk f (2 ^ k) S (2 ^ k) o6 o) : TrOut f k W S l o := by
  refine ⟨H.len, H.lt, fun j hj => ?_⟩
  unfold seq
  rw [H.at_ j, if_pos hj]
  refine (mm_mont_eqm f hf _ _).trans ?_
  have := (h.at_ j hj).mul (Eqm.refl (f.p : Int) (S : Int))
  rw [Int.natCast_one, Int.one_mul, Int.mul_comm (dft _ _ _ _)] at this
  exact this

set_option maxRecDepth 100000 in
set_option maxHeartbeats 4000000 in
theorem trans_back (w : World) (hg : Gl w) (i k : Nat) (hi : i < 3) (hk : k ≤ 16) (v : Value) (l : List Nat) (hl : l.length = 2 ^ k) (hlt : ∀ x ∈ l, x < (fd i).p) (hu : U w v l) :
    Calls Tryd.prog 21 #[.int .i64 (i : Nat), v, .bool true] w fun e w' => (∃ u out, e = .returned (.tuple #[u, .int .i64 0]) ∧ TrOut (fd i) k (bt (fd i) k) (sh (fd i) (2 ^ k)) l out ∧ U w' u out) ∧ Ext w w' := by
  have F := fd_fld i
  have hG := F.good
  have p0 := hG.p0
  have p1 := hG.p1
  obtain ⟨g0, g1, g2, g3, g4⟩ := hg.at_ hi
  have hw0 := hg.1
  clear hg
  generalize fd i = f at *
  obtain ⟨n, hn⟩ : ∃ n, 2 ^ k = n := ⟨_, rfl⟩
  have hn1 : n ≤ 65536 := by rw [← hn]; exact Nat.pow_le_pow_right (by decide) hk
  have hn0 : 0 < n := by rw [← hn]; exact Nat.two_pow_pos k
  have HL := Lib.hid hl
  rw [hn] at hl
  obtain ⟨A, c, rfl, ⟨hc1, hc2⟩, hx, hr⟩ := id hu
  rw [hl] at hr ⊢
  obtain ⟨ad, rfl, hb, hcell⟩ := hr (by omega)
  have HN := Lib.hid hn
  have HLN := Lib.hid hl
  have HLT := Lib.hid hlt
  have hi0 : decide ((i : Int) < 0) = false := by rw [decide_eq_false_iff_not]; omega
  have hi3 : decide ((3 : Int) ≤ (i : Int)) = false := by rw [decide_eq_false_iff_not]; omega
  clear hn hl hr hlt hc1 hc2
  go_enter Tryd.func21, Tryd.ntmps21
  go_wp2_with (fail)
  refine (size_yes _ n k HN.out.symm hk).mono ?_
  rintro e w' ⟨rfl, rfl⟩
  go_wp2_with (fail)
  have HX := Bx.new w f
  obtain ⟨b0, b1, b2, b3, b4, b5⟩ := id HX
  have hE := (Ext.refl w).alloc (.cells #[.int .u32 (f.p : Int), .int .u32 (f.root : Int), .int .u32 (f.neg : Int), .int .u32 (f.square : Int), .int .u32 (f.ahead : Int)] 56)
  have hcell1 : ∀ j, j < n → (w.alloc (.cells #[.int .u32 (f.p : Int), .int .u32 (f.root : Int), .int .u32 (f.neg : Int), .int .u32 (f.square : Int), .int .u32 (f.ahead : Int)] 56)).cell? (ad.add j) = some (.int .u32 (lb l j : Nat)) := fun j hj => (hE.cell (p := ad.add j) (by rw [addr_add_block]; exact hb)).trans (hcell j hj)
  have hu1 := hu.below hE
  clear hu hcell
  go_loop [39] (fun t => ∃ j : Nat, j ≤ n ∧ t = .int .i64 (j : Nat)) (fun t => n - (intOf t).toNat)
  case atStart => exact ⟨0, Nat.zero_le _, rfl⟩
  case round =>
    obtain ⟨j, hj, rfl⟩ := hrel
    by_cases hjn : j < n
    · have hc1 := hcell1 j hjn
      have hlj : lb l j < f.p := lb_lt_of (by omega) HLT.out _
      have hd : decide ((f.p : Int) ≤ (lb l j : Nat)) = false := by rw [decide_eq_false_iff_not]; omega
      generalize lb l j = x at *
      clear hcell1
      go_wp2
      go_round
      case rel => exact ⟨j + 1, by omega, by go_num⟩
      case measure => simp [intOf]; omega
    · clear hj hcell1
      have hbs : (w.alloc (.cells #[.int .u32 (f.p : Int), .int .u32 (f.root : Int), .int .u32 (f.neg : Int), .int .u32 (f.square : Int), .int .u32 (f.ahead : Int)] 56)).heap.size = w.heap.size + 1 := by simp
      generalize (w.alloc (.cells #[.int .u32 (f.p : Int), .int .u32 (f.root : Int), .int .u32 (f.neg : Int), .int .u32 (f.square : Int), .int .u32 (f.ahead : Int)] 56)) = w1 at *
      obtain ⟨v', w2, hrun, ho, hgr⟩ := run_append_U w1 (w.heap.size + 1) (.slice none 0 0) [] (World.ownsRow_nil _ _ _ _) _ l hu1 (by simp; rw [HLN.out]; omega) (by omega)
      rw [List.nil_append] at ho
      obtain ⟨g, c', hv'⟩ := ho.shape (by rw [HLN.out]; exact hn0)
      subst hv'
      rw [HLN.out] at hrun ho
      obtain ⟨t1, t2, t3⟩ := app_tok hrun
      have hB2 : Ext w1 w2 := (Ext.refl w1).grown hgr (Nat.le_refl _) (fun _ h => by cases h)
      have hX2 := HX.ext hB2
      have hE2 := hE.below hB2
      have hblk := ho.block
      clear hrun hgr hu1 HX hE
      go_wp2_with (fail)
      have hn2 : n ≠ j ∨ n = j := by omega
      have hwg : w.heap.size ≠ g := by omega
      have hS0 : (w.heap.size < w2.drew.heap.size ∧ w2.drew.cell? ⟨w.heap.size, 0, none⟩ = some (.int .u32 (f.p : Int)) ∧ w2.drew.cell? ⟨w.heap.size, 1, none⟩ = some (.int .u32 (f.root : Int)) ∧ w2.drew.cell? ⟨w.heap.size, 2, none⟩ = some (.int .u32 (f.neg : Int)) ∧ w2.drew.cell? ⟨w.heap.size, 3, none⟩ = some (.int .u32 (f.square : Int)) ∧ w2.drew.cell? ⟨w.heap.size, 4, none⟩ = some (.int .u32 (f.ahead : Int))) := hX2
      have ho2 : Own w2.drew (w.heap.size + 1) (.slice (some ⟨g, 0, none⟩) n c') l := ho.drew
      have hE3 : Ext w w2.drew := hE2.drew
      have hPW := Lib.hid (fun W => powers_calls W f hG k n (bt f k) HN.out.symm (by omega))
      clear ho hE2 hX2 b0 b1 b2 b3 b4 b5
      go_region_held3 (fun X => (w.heap.size < X.heap.size ∧ X.cell? ⟨w.heap.size, 0, none⟩ = some (.int .u32 (f.p : Int)) ∧ X.cell? ⟨w.heap.size, 1, none⟩ = some (.int .u32 (f.root : Int)) ∧ X.cell? ⟨w.heap.size, 2, none⟩ = some (.int .u32 (f.neg : Int)) ∧ X.cell? ⟨w.heap.size, 3, none⟩ = some (.int .u32 (f.square : Int)) ∧ X.cell? ⟨w.heap.size, 4, none⟩ = some (.int .u32 (f.ahead : Int))))
        (first
          | exact hS0
          | assumption
          | exact keep5 (by assumption) (by assumption))
        (first
          | (go_at_call 38; ((with_reducible refine (backward_calls _ f hG k (by omega)).mono ?_); rintro e w3 ⟨rfl, hB3⟩; have ho3 := ho2.ext hB3; have hE4 := hE3.below hB3))
          | (go_at_call 40; ((with_reducible refine (hPW.out _).mono ?_); rintro e w4 ⟨⟨q, pw, rfl, hpw, hown⟩, hB4⟩; have ho4 := ho3.ext hB4; have hE5 := hE4.below hB4; have hblk3 := ho3.block; have hqb := hown.block))
          | (go_at_call 39; ((with_reducible refine (down_n _ f hG k (bt f k) n l pw g q c' (w.heap.size + 1) HN.out (by omega) (F.bt (by omega)) hpw HL.out HLT.out ho4 hown.rd (by omega)).mono ?_); rintro e w5 ⟨rfl, ⟨o5, hd5, ho5⟩, hB5⟩; have hE6 := hE5.trans (hB5.below (B := w.heap.size) (by omega) (by omega)); have hX5 : (w.heap.size < w5.heap.size ∧ w5.cell? ⟨w.heap.size, 0, none⟩ = some (.int .u32 (f.p : Int)) ∧ w5.cell? ⟨w.heap.size, 1, none⟩ = some (.int .u32 (f.root : Int)) ∧ w5.cell? ⟨w.heap.size, 2, none⟩ = some (.int .u32 (f.neg : Int)) ∧ w5.cell? ⟨w.heap.size, 3, none⟩ = some (.int .u32 (f.square : Int)) ∧ w5.cell? ⟨w.heap.size, 4, none⟩ = some (.int .u32 (f.ahead : Int))) := hB5.bx (f := f) (by assumption) hwg)))
      have hd5L := hd5.lt
      have HD5 := Lib.hid hd5
      clear hd5
      go_wp2_with (fail)
      refine (swap_n _ k f.p n o5 g c' (w.heap.size + 1) HN.out (by omega) (by omega) (by omega) HD5.out.len hd5L ho5).mono ?_
      rintro e w6 ⟨rfl, ⟨o6, hs6, ho6⟩, hB6⟩
      have hE7 : Ext w w6 := hE6.trans (hB6.below (B := w.heap.size) (by omega) (Nat.le_trans hE6.size (Nat.le_refl _)))
      have HT : Hid (TrOut f k (bt f k) 1 l o6) := TrOut.of HD5.out hs6
      have hX6 : Bx w6 w.heap.size f := hB6.bx (f := f) hX5 hwg
      obtain ⟨b0, b1, b2, b3, b4, b5⟩ := id hX6
      have HSc := Lib.hid (fun W => share_calls W f hG n (by omega))
      clear hs6 hd5L ho5 hX5
      go_wp2_with (fail)
      refine (HSc.out _).mono ?_
      rintro e w7 ⟨rfl, hB7⟩
      have ho7 := ho6.ext hB7
      have hE8 := hE7.below hB7
      have hX7 := hX6.ext hB7
      obtain ⟨S, hS⟩ : ∃ S, sh f n = S := ⟨_, rfl⟩
      rw [hS]
      have HSS := Lib.hid hS
      have hm := mont_lt f hG S
      clear hS HSc b0 b1 b2 b3 b4 b5 hX6 ho6 hE7
      go_wp2_with (fail)
      go_loopw [75] (fun t wr => ∃ (m : Nat) (o : List Nat), m ≤ n ∧ t = .int .i64 (m : Nat) ∧ Hid (Bk f n S m o6 o) ∧ Own wr (w.heap.size + 1) (.slice (some ⟨g, 0, none⟩) n c') o ∧ Ext w wr ∧ Bx wr w.heap.size f) (fun t _ => n - (intOf t).toNat)
      case atStart => exact ⟨0, o6, Nat.zero_le _, rfl, Bk.start (by rw [HT.out.len, HN.out]) HT.out.lt, ho7, hE8, hX7⟩
      case round =>
        clear ho7 hE8 hX7
        obtain ⟨m, o, hmn, rfl, HO, hown2, hE8, hX7⟩ := hrel
        by_cases hlt : m < n
        · have hc1 := hown2.rd.2 m (by rw [HO.out.len]; exact hlt)
          have hst := HO.out.step hG hlt
          have HST := Lib.hid hst
          have hxm : lb o m < f.p := lb_lt_of (by omega) HO.out.lt _
          obtain ⟨b0, b1, b2, b3, b4, b5⟩ := id hX7
          have hlm : m < o.length := by rw [HO.out.len]; exact hlt
          generalize lb o m = x at *
          clear hst HO
          go_wp2_with (fail)
          refine (mul_calls _ f hG x (mont f S) (by omega) (by omega) (lt_prod (by omega) hm)).mono ?_
          rintro e w8 ⟨rfl, hB8⟩
          have ho8 := hown2.ext hB8
          have hE9 := hE8.below hB8
          have hX8 := hX7.ext hB8
          have hc2 := ho8.rd.2 m hlm
          have hf2 := ho8.frozen' m
          have ho9 := ho8.set' m (mm f x (mont f S))
          have hE10 := hE9.setCell (p := ⟨g, m, none⟩) (by show w.heap.size ≤ g; omega) (.int .u32 (mm f x (mont f S) : Nat))
          have hX9 := ((But.refl g w8).setCell m (.int .u32 (mm f x (mont f S) : Nat))).bx hX8 hwg
          generalize mm f x (mont f S) = y at *
          clear b0 b1 b2 b3 b4 b5 hX7 hown2 hE8 hc1 ho8 hE9 hX8
          go_wp2
          go_roundw
          case rel => exact ⟨m + 1, _, by omega, by go_num, HST, ho9, hE10, hX9⟩
          case measure => simp [intOf]; omega
        · obtain rfl : m = n := by omega
          have HT2 : Hid (TrOut f k (bt f k) (sh f (2 ^ k)) l o) := by rw [HN.out, HSS.out]; exact HT.out.times hG (by rw [HN.out]; exact HO.out)
          have hU6 : U wr (.slice (some ⟨g, 0, none⟩) m c') o := hown2.toU (fun x hx => Nat.lt_trans (HT2.out.lt x hx) (by omega)) (by rw [HT2.out.len, HN.out]; omega)
          have HF : Hid (∃ u out, Ending.returned (.tuple #[.slice (some ⟨g, 0, none⟩) m c', .int .i64 0]) = .returned (.tuple #[u, .int .i64 0]) ∧ TrOut f k (bt f k) (sh f (2 ^ k)) l out ∧ U wr u out) := ⟨_, o, rfl, HT2.out, hU6⟩
          clear HO HT2 hU6
          go_wp2
          go_ret2
          exact ⟨HF.out, hE8⟩
end Go.Proofs.YtofhpfmgopmcmaaDoor
