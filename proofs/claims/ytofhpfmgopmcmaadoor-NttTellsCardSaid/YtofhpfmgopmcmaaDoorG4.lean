/- The transform. -/
import Derived.Test.YtofhpfmgopmcmaaDoorG3
namespace Go.Proofs.YtofhpfmgopmcmaaDoor
open Go.RowKit
set_option linter.unusedVariables false
set_option maxHeartbeats 400000
attribute [local go_sem ↓] app_shut
attribute [local go_sem] run_append_tok

theorem Gl.at_ {w : World} (h : Gl w) {i : Nat} (hi : i < 3) : GB w (i * 5) (fd i) := by
  rcases (show i = 0 ∨ i = 1 ∨ i = 2 by omega) with rfl | rfl | rfl
  · exact h.2.1
  · exact h.2.2.1
  · exact h.2.2.2

theorem Own.shape {w : World} {base : Nat} {v : Value} {o : List Nat} (h : Own w base v o) (h0 : 0 < o.length) : ∃ g c, v = .slice (some ⟨g, 0, none⟩) o.length c := by
  rcases h.2 with ⟨_, h1⟩ | ⟨g, cap, cur, rfl, _⟩
  · omega
  · exact ⟨g, cap, rfl⟩

theorem down_n (w : World) (f : Fd) (hf : Good f) (k W n : Nat) (l pw : List Nat) (g q c base : Nat) (hn : 2 ^ k = n) (hk : k ≤ 20) (hr : Rt f.p W k) (hp : Pw f k W pw)
    (hl : l.length = 2 ^ k) (hlt : ∀ x ∈ l, x < f.p) (hown : Own w base (.slice (some ⟨g, 0, none⟩) n c) l) (hq : Rd w q pw) (hqg : q ≠ g) :
    Calls Tryd.prog 39 #[f.V, .slice (some ⟨g, 0, none⟩) n c, .slice (some ⟨q, 0, none⟩) pw.length pw.length] w fun e w' => e = .returned (.tuple #[]) ∧ (∃ o, DownL f k W l 0 o ∧ Own w' base (.slice (some ⟨g, 0, none⟩) n c) o) ∧ But g w w' := by
  have e : n = l.length := by rw [hl, hn]
  subst e
  exact (down_calls w f hf k W l pw g q c base hk hr hp hl hlt hown hq hqg).mono fun e w' ⟨h1, ⟨o, h2, h3⟩, h4⟩ => ⟨h1, ⟨o, h2, by rw [show o.length = l.length by rw [h2.len, hl]] at h3; exact h3⟩, h4⟩
theorem up_n (w : World) (f : Fd) (hf : Good f) (k W n : Nat) (l pw : List Nat) (g q c base : Nat) (hn : 2 ^ k = n) (hk : k ≤ 20) (hr : Rt f.p W k) (hp : Pw f k W pw)
    (hl : l.length = 2 ^ k) (hlt : ∀ x ∈ l, x < f.p) (hown : Own w base (.slice (some ⟨g, 0, none⟩) n c) l) (hq : Rd w q pw) (hqg : q ≠ g) :
    Calls Tryd.prog 51 #[f.V, .slice (some ⟨g, 0, none⟩) n c, .slice (some ⟨q, 0, none⟩) pw.length pw.length] w fun e w' => e = .returned (.tuple #[]) ∧ (∃ o, UpL f k W l k o ∧ Own w' base (.slice (some ⟨g, 0, none⟩) n c) o) ∧ But g w w' := by
  have e : n = l.length := by rw [hl, hn]
  subst e
  exact (up_calls w f hf k W l pw g q c base hk hr hp hl hlt hown hq hqg).mono fun e w' ⟨h1, ⟨o, h2, h3⟩, h4⟩ => ⟨h1, ⟨o, h2, by rw [show o.length = l.length by rw [h2.len, hl]] at h3; exact h3⟩, h4⟩
theorem swap_n (w : World) (k p n : Nat) (l : List Nat) (g c base : Nat) (hn : 2 ^ k = n) (hk : k ≤ 20) (hp0 : 0 < p) (hp : p ≤ 4294967296) (hl : l.length = 2 ^ k) (hlt : ∀ x ∈ l, x < p) (hown : Own w base (.slice (some ⟨g, 0, none⟩) n c) l) :
    Calls Tryd.prog 41 #[.slice (some ⟨g, 0, none⟩) n c, .int .i64 (k : Nat)] w fun e w' => e = .returned (.tuple #[]) ∧ (∃ o, Sw k p (2 ^ k) l o ∧ Own w' base (.slice (some ⟨g, 0, none⟩) n c) o) ∧ But g w w' := by
  have e : n = l.length := by rw [hl, hn]
  subst e
  exact (swap_calls w k p l g c base hk hp0 hp hl hlt hown).mono fun e w' ⟨h1, ⟨o, h2, h3⟩, h4⟩ => ⟨h1, ⟨o, h2, by rw [show o.length = l.length by rw [h2.len, hl]] at h3; exact h3⟩, h4⟩

set_option maxRecDepth 100000 in
set_option maxHeartbeats 4000000 in
theorem trans_calls (w : World) (hg : Gl w) (i k : Nat) (hi : i < 3) (hk : k ≤ 16) (v : Value) (l : List Nat) (hl : l.length = 2 ^ k) (hlt : ∀ x ∈ l, x < (fd i).p) (hu : U w v l) :
    Calls Tryd.prog 21 #[.int .i64 (i : Nat), v, .bool false] w fun e w' => (∃ u out, e = .returned (.tuple #[u, .int .i64 0]) ∧ TrOut (fd i) k (rt (fd i) k) 1 l out ∧ U w' u out) ∧ Ext w w' := by
  have F := fd_fld i
  have hG := F.good
  have p0 := hG.p0
  have p1 := hG.p1
  obtain ⟨g0, g1, g2, g3, g4⟩ := hg.at_ hi
  have hw0 := hg.1
  clear hg
  generalize fd i = f at *
  obtain ⟨n, hn⟩ : ∃ n, 2 ^ k = n := ⟨_, rfl⟩
  have hn1 : n ≤ 65536 := by rw [← hn]; exact Nat.pow_le_pow_right (by decide) hk
  have hn0 : 0 < n := by rw [← hn]; exact Nat.two_pow_pos k
  have HL := Lib.hid hl
  rw [hn] at hl
  obtain ⟨A, c, rfl, ⟨hc1, hc2⟩, hx, hr⟩ := id hu
  rw [hl] at hr ⊢
  obtain ⟨ad, rfl, hb, hcell⟩ := hr (by omega)
  have HN := Lib.hid hn
  have HLN := Lib.hid hl
  have HLT := Lib.hid hlt
  have hi0 : decide ((i : Int) < 0) = false := by rw [decide_eq_false_iff_not]; omega
  have hi3 : decide ((3 : Int) ≤ (i : Int)) = false := by rw [decide_eq_false_iff_not]; omega
  clear hn hl hr hlt hc1 hc2
  go_enter Tryd.func21, Tryd.ntmps21
  go_wp2_with (fail)
  refine (size_yes _ n k HN.out.symm hk).mono ?_
  rintro e w' ⟨rfl, rfl⟩
  go_wp2_with (fail)
  have HX := Bx.new w f
  obtain ⟨b0, b1, b2, b3, b4, b5⟩ := id HX
  have hE := (Ext.refl w).alloc (.cells #[.int .u32 (f.p : Int), .int .u32 (f.root : Int), .int .u32 (f.neg : Int), .int .u32 (f.square : Int), .int .u32 (f.ahead : Int)] 56)
  have hcell1 : ∀ j, j < n → (w.alloc (.cells #[.int .u32 (f.p : Int), .int .u32 (f.root : Int), .int .u32 (f.neg : Int), .int .u32 (f.square : Int), .int .u32 (f.ahead : Int)] 56)).cell? (ad.add j) = some (.int .u32 (lb l j : Nat)) := fun j hj => (hE.cell (p := ad.add j) (by rw [addr_add_block]; exact hb)).trans (hcell j hj)
  have hu1 := hu.below hE
  clear hu hcell
  go_loop [39] (fun t => ∃ j : Nat, j ≤ n ∧ t = .int .i64 (j : Nat)) (fun t => n - (intOf t).toNat)
  case atStart => exact ⟨0, Nat.zero_le _, rfl⟩
  case round =>
    obtain ⟨j, hj, rfl⟩ := hrel
    by_cases hjn : j < n
    · have hc1 := hcell1 j hjn
      have hlj : lb l j < f.p := lb_lt_of (by omega) HLT.out _
      have hd : decide ((f.p : Int) ≤ (lb l j : Nat)) = false := by rw [decide_eq_false_iff_not]; omega
      generalize lb l j = x at *
      clear hcell1
      go_wp2
      go_round
      case rel => exact ⟨j + 1, by omega, by go_num⟩
      case measure => simp [intOf]; omega
    · clear hj hcell1
      have hbs : (w.alloc (.cells #[.int .u32 (f.p : Int), .int .u32 (f.root : Int), .int .u32 (f.neg : Int), .int .u32 (f.square : Int), .int .u32 (f.ahead : Int)] 56)).heap.size = w.heap.size + 1 := by simp
      generalize (w.alloc (.cells #[.int .u32 (f.p : Int), .int .u32 (f.root : Int), .int .u32 (f.neg : Int), .int .u32 (f.square : Int), .int .u32 (f.ahead : Int)] 56)) = w1 at *
      obtain ⟨v', w2, hrun, ho, hgr⟩ := run_append_U w1 (w.heap.size + 1) (.slice none 0 0) [] (World.ownsRow_nil _ _ _ _) _ l hu1 (by simp; rw [HLN.out]; omega) (by omega)
      rw [List.nil_append] at ho
      obtain ⟨g, c', hv'⟩ := ho.shape (by rw [HLN.out]; exact hn0)
      subst hv'
      rw [HLN.out] at hrun ho
      obtain ⟨t1, t2, t3⟩ := app_tok hrun
      have hB2 : Ext w1 w2 := (Ext.refl w1).grown hgr (Nat.le_refl _) (fun _ h => by cases h)
      have hX2 := HX.ext hB2
      have hE2 := hE.below hB2
      have hblk := ho.block
      clear hrun hgr hu1 HX hE
      go_wp2_with (fail)
      have hn2 : n ≠ j ∨ n = j := by omega
      have hwg : w.heap.size ≠ g := by omega
      have hS0 : (w.heap.size < w2.drew.heap.size ∧ w2.drew.cell? ⟨w.heap.size, 0, none⟩ = some (.int .u32 (f.p : Int)) ∧ w2.drew.cell? ⟨w.heap.size, 1, none⟩ = some (.int .u32 (f.root : Int)) ∧ w2.drew.cell? ⟨w.heap.size, 2, none⟩ = some (.int .u32 (f.neg : Int)) ∧ w2.drew.cell? ⟨w.heap.size, 3, none⟩ = some (.int .u32 (f.square : Int)) ∧ w2.drew.cell? ⟨w.heap.size, 4, none⟩ = some (.int .u32 (f.ahead : Int))) := hX2
      have ho2 : Own w2.drew (w.heap.size + 1) (.slice (some ⟨g, 0, none⟩) n c') l := ho.drew
      have hE3 : Ext w w2.drew := hE2.drew
      have hPW := Lib.hid (fun W => powers_calls W f hG k n (rt f k) HN.out.symm (by omega))
      clear ho hE2 hX2 b0 b1 b2 b3 b4 b5
      go_region_held3 (fun X => (w.heap.size < X.heap.size ∧ X.cell? ⟨w.heap.size, 0, none⟩ = some (.int .u32 (f.p : Int)) ∧ X.cell? ⟨w.heap.size, 1, none⟩ = some (.int .u32 (f.root : Int)) ∧ X.cell? ⟨w.heap.size, 2, none⟩ = some (.int .u32 (f.neg : Int)) ∧ X.cell? ⟨w.heap.size, 3, none⟩ = some (.int .u32 (f.square : Int)) ∧ X.cell? ⟨w.heap.size, 4, none⟩ = some (.int .u32 (f.ahead : Int))))
        (first
          | exact hS0
          | assumption
          | exact keep5 (by assumption) (by assumption))
        (first
          | (go_at_call 30; ((with_reducible refine (of_calls _ f hG k (by omega)).mono ?_); rintro e w3 ⟨rfl, hB3⟩; have ho3 := ho2.ext hB3; have hE4 := hE3.below hB3))
          | (go_at_call 40; ((with_reducible refine (hPW.out _).mono ?_); rintro e w4 ⟨⟨q, pw, rfl, hpw, hown⟩, hB4⟩; have ho4 := ho3.ext hB4; have hE5 := hE4.below hB4; have hblk3 := ho3.block; have hqb := hown.block))
          | (go_at_call 39; ((with_reducible refine (down_n _ f hG k (rt f k) n l pw g q c' (w.heap.size + 1) HN.out (by omega) (F.rt (by omega)) hpw HL.out HLT.out ho4 hown.rd (by omega)).mono ?_); rintro e w5 ⟨rfl, ⟨o5, hd5, ho5⟩, hB5⟩; have hE6 := hE5.trans (hB5.below (B := w.heap.size) (by omega) (by omega)); have hX5 : (w.heap.size < w5.heap.size ∧ w5.cell? ⟨w.heap.size, 0, none⟩ = some (.int .u32 (f.p : Int)) ∧ w5.cell? ⟨w.heap.size, 1, none⟩ = some (.int .u32 (f.root : Int)) ∧ w5.cell? ⟨w.heap.size, 2, none⟩ = some (.int .u32 (f.neg : Int)) ∧ w5.cell? ⟨w.heap.size, 3, none⟩ = some (.int .u32 (f.square : Int)) ∧ w5.cell? ⟨w.heap.size, 4, none⟩ = some (.int .u32 (f.ahead : Int))) := hB5.bx (f := f) (by assumption) hwg)))
      have hd5L := hd5.lt
      have HD5 := Lib.hid hd5
      clear hd5
      go_wp2_with (fail)
      refine (swap_n _ k f.p n o5 g c' (w.heap.size + 1) HN.out (by omega) (by omega) (by omega) HD5.out.len hd5L ho5).mono ?_
      rintro e w6 ⟨rfl, ⟨o6, hs6, ho6⟩, hB6⟩
      have hE7 := hE6.trans (hB6.below (B := w.heap.size) (by omega) (Nat.le_trans hE6.size (Nat.le_refl _)))
      have HT : Hid (TrOut f k (rt f k) 1 l o6) := TrOut.of HD5.out hs6
      have hU6 : U w6 (.slice (some ⟨g, 0, none⟩) n c') o6 := ho6.toU (fun x hx => Nat.lt_trans (HT.out.lt x hx) (by omega)) (by rw [HT.out.len, HN.out]; omega)
      have HF : Hid (∃ u out, Ending.returned (.tuple #[.slice (some ⟨g, 0, none⟩) n c', .int .i64 0]) = .returned (.tuple #[u, .int .i64 0]) ∧ TrOut f k (rt f k) 1 l out ∧ U w6 u out) := ⟨_, o6, rfl, HT.out, hU6⟩
      clear hs6 ho6 hd5L ho5 hX5
      go_wp2
      go_ret2
      exact ⟨HF.out, hE7⟩
end Go.Proofs.YtofhpfmgopmcmaaDoor
