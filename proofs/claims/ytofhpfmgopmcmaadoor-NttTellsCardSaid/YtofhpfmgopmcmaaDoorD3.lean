/- A transform in its place, on the way up. -/
import Derived.Test.YtofhpfmgopmcmaaDoorD2
namespace Go.Proofs.YtofhpfmgopmcmaaDoor
open Go.RowKit
set_option linter.unusedVariables false
set_option maxHeartbeats 400000

theorem keepU {x y : World} {B g a b : Nat} {f : Fd} {u v : Value} (h : (B < x.heap.size ∧ x.cell? ⟨B, 0, none⟩ = some (.int .u32 (f.p : Int)) ∧ x.cell? ⟨B, 1, none⟩ = some (.int .u32 (f.root : Int)) ∧ x.cell? ⟨B, 2, none⟩ = some (.int .u32 (f.neg : Int)) ∧ x.cell? ⟨B, 3, none⟩ = some (.int .u32 (f.square : Int)) ∧ x.cell? ⟨B, 4, none⟩ = some (.int .u32 (f.ahead : Int))) ∧ x.cell? ⟨g, a, none⟩ = some u ∧ x.cell? ⟨g, b, none⟩ = some v) (hB : Ext x y) :
    (B < y.heap.size ∧ y.cell? ⟨B, 0, none⟩ = some (.int .u32 (f.p : Int)) ∧ y.cell? ⟨B, 1, none⟩ = some (.int .u32 (f.root : Int)) ∧ y.cell? ⟨B, 2, none⟩ = some (.int .u32 (f.neg : Int)) ∧ y.cell? ⟨B, 3, none⟩ = some (.int .u32 (f.square : Int)) ∧ y.cell? ⟨B, 4, none⟩ = some (.int .u32 (f.ahead : Int))) ∧ y.cell? ⟨g, a, none⟩ = some u ∧ y.cell? ⟨g, b, none⟩ = some v :=
  ⟨Bx.ext (f := f) h.1 hB, (hB.cell (p := ⟨g, a, none⟩) (World.block_lt_of_cell? x _ h.2.1)).trans h.2.1, (hB.cell (p := ⟨g, b, none⟩) (World.block_lt_of_cell? x _ h.2.2)).trans h.2.2⟩

theorem keep5 {x y : World} {B : Nat} {f : Fd} (h : (B < x.heap.size ∧ x.cell? ⟨B, 0, none⟩ = some (.int .u32 (f.p : Int)) ∧ x.cell? ⟨B, 1, none⟩ = some (.int .u32 (f.root : Int)) ∧ x.cell? ⟨B, 2, none⟩ = some (.int .u32 (f.neg : Int)) ∧ x.cell? ⟨B, 3, none⟩ = some (.int .u32 (f.square : Int)) ∧ x.cell? ⟨B, 4, none⟩ = some (.int .u32 (f.ahead : Int)))) (hB : Ext x y) : (B < y.heap.size ∧ y.cell? ⟨B, 0, none⟩ = some (.int .u32 (f.p : Int)) ∧ y.cell? ⟨B, 1, none⟩ = some (.int .u32 (f.root : Int)) ∧ y.cell? ⟨B, 2, none⟩ = some (.int .u32 (f.neg : Int)) ∧ y.cell? ⟨B, 3, none⟩ = some (.int .u32 (f.square : Int)) ∧ y.cell? ⟨B, 4, none⟩ = some (.int .u32 (f.ahead : Int))) := Bx.ext (f := f) h hB
theorem keepS {x : World} {B g i : Nat} {v : Value} {f : Fd} (h : (B < x.heap.size ∧ x.cell? ⟨B, 0, none⟩ = some (.int .u32 (f.p : Int)) ∧ x.cell? ⟨B, 1, none⟩ = some (.int .u32 (f.root : Int)) ∧ x.cell? ⟨B, 2, none⟩ = some (.int .u32 (f.neg : Int)) ∧ x.cell? ⟨B, 3, none⟩ = some (.int .u32 (f.square : Int)) ∧ x.cell? ⟨B, 4, none⟩ = some (.int .u32 (f.ahead : Int)))) (hne : B ≠ g) : (B < (x.setCell ⟨g, i, none⟩ v).heap.size ∧ (x.setCell ⟨g, i, none⟩ v).cell? ⟨B, 0, none⟩ = some (.int .u32 (f.p : Int)) ∧ (x.setCell ⟨g, i, none⟩ v).cell? ⟨B, 1, none⟩ = some (.int .u32 (f.root : Int)) ∧ (x.setCell ⟨g, i, none⟩ v).cell? ⟨B, 2, none⟩ = some (.int .u32 (f.neg : Int)) ∧ (x.setCell ⟨g, i, none⟩ v).cell? ⟨B, 3, none⟩ = some (.int .u32 (f.square : Int)) ∧ (x.setCell ⟨g, i, none⟩ v).cell? ⟨B, 4, none⟩ = some (.int .u32 (f.ahead : Int))) := ((But.refl g x).setCell i v).bx (f := f) h hne

set_option maxRecDepth 100000 in
set_option maxHeartbeats 4000000 in
theorem up_calls (w : World) (f : Fd) (hf : Good f) (k W : Nat) (l pw : List Nat) (g q c base : Nat) (hk : k ≤ 20) (hr : Rt f.p W k) (hp : Pw f k W pw)
    (hl : l.length = 2 ^ k) (hlt : ∀ x ∈ l, x < f.p) (hown : Own w base (.slice (some ⟨g, 0, none⟩) l.length c) l) (hq : Rd w q pw) (hqg : q ≠ g) :
    Calls Tryd.prog 51 #[f.V, .slice (some ⟨g, 0, none⟩) l.length c, .slice (some ⟨q, 0, none⟩) pw.length pw.length] w fun e w' => e = .returned (.tuple #[]) ∧ (∃ o, UpL f k W l k o ∧ Own w' base (.slice (some ⟨g, 0, none⟩) o.length c) o) ∧ But g w w' := by
  have p0 := hf.p0
  have p1 := hf.p1
  have HX := Bx.new w f
  have hpl := hp.len
  obtain ⟨n, hn⟩ : ∃ n, 2 ^ k = n := ⟨_, rfl⟩
  have hn1 : n ≤ 1048576 := by rw [← hn]; exact Nat.pow_le_pow_right (by decide) hk
  have hn0 : 0 < n := by rw [← hn]; exact Nat.two_pow_pos k
  have hcap := hown.caps
  have hgb := hown.block
  have hB0 : But g w (w.alloc (.cells #[.int .u32 (f.p : Int), .int .u32 (f.root : Int), .int .u32 (f.neg : Int), .int .u32 (f.square : Int), .int .u32 (f.ahead : Int)] 56)) := (But.refl g w).ext ((Ext.refl w).alloc _)
  have hq0 := hB0.rd hq hqg
  have hown0 := hown.ext ((Ext.refl w).alloc (.cells #[.int .u32 (f.p : Int), .int .u32 (f.root : Int), .int .u32 (f.neg : Int), .int .u32 (f.square : Int), .int .u32 (f.ahead : Int)] 56))
  have hwg : w.heap.size ≠ g := by omega
  rw [hn] at hl hpl
  rw [hl] at hown0 hcap ⊢
  rw [hpl]
  have HS : Hid (UpL f k W l 0 l) := UpL.start f k W l (by rw [hl, hn]) hlt
  have HN := Lib.hid hn
  have HP := Lib.hid hp
  clear hn hown hq hp hlt hpl hl
  obtain ⟨hc1, hc2, hc3⟩ := hcap
  unfold maxLen at hc3
  unfold Fd.V
  go_enter Tryd.func51, Tryd.ntmps51
  go_wp2
  go_loopw [6] (fun h wr => ∃ (s H : Nat) (o : List Nat), s ≤ k ∧ h = .int .i64 (H : Nat) ∧ Hid (2 ^ s = H) ∧ Hid (UpL f k W l s o) ∧ Own wr base (.slice (some ⟨g, 0, none⟩) n c) o ∧ But g w wr ∧ Bx wr w.heap.size f ∧ Rd wr q pw) (fun h _ => n - (intOf h).toNat)
  case atStart => exact ⟨0, 1, l, Nat.zero_le _, rfl, rfl, HS, hown0, hB0, HX, hq0⟩
  case round =>
    clear HX hq0 hown0 hB0 HS
    obtain ⟨s, h, o, hs, rfl, HHH, HS, hown, hB, HX, hq⟩ := hrel
    rcases Nat.lt_or_eq_of_le hs with hs | rfl
    · have hh := HHH.out
      have hM : 2 ^ (k - (s + 1)) * (2 * h) = n := by rw [← hh, ← Nat.pow_succ', ← Nat.pow_add, ← HN.out]; congr 1; omega
      have hh0 : 0 < h := by rw [← hh]; exact Nat.two_pow_pos s
      obtain ⟨M, hMM⟩ : ∃ M, 2 ^ (k - (s + 1)) = M := ⟨_, rfl⟩
      rw [hMM] at hM
      have HMM := Lib.hid hMM
      clear hMM
      have hM0 : 0 < M := by rcases Nat.eq_zero_or_pos M with e | e; · rw [e] at hM; omega
                             · exact e
      have h2h : 2 * h ≤ n := by rw [← hM]; exact Nat.le_mul_of_pos_left _ hM0
      have HM := Lib.hid hM
      have h2 : 2 * h - h = h := by omega
      have hhn : h < n := by omega
      have hhd : decide (h < n) = true := decide_eq_true hhn
      have hoL : o.length = n := by rw [HS.out.len]; exact HN.out
      have HOL := Lib.hid hoL
      clear hM hh hoL
      go_wp2
      rw [h2]
      clear h2
      go_loopw [8] (fun a wr => ∃ (b A : Nat), b ≤ M ∧ Hid (A = b * (2 * h)) ∧ a = .int .i64 (A : Nat) ∧ A ≤ n ∧ Own wr base (.slice (some ⟨g, 0, none⟩) n c) (mid (stu f pw h) h b o) ∧ But g w wr ∧ Bx wr w.heap.size f ∧ Rd wr q pw) (fun a _ => n - (intOf a).toNat)
      case atStart => exact ⟨0, 0, Nat.zero_le _, by rw [Hid, Nat.zero_mul], rfl, Nat.zero_le _, hown, hB, HX, hq⟩
      case round =>
        clear hown hB HX hq
        obtain ⟨b, A, hb, HA, rfl, hAn, hown, hB, HX, hq⟩ := hrel
        by_cases hlt : A < n
        · have hA2 : A + 2 * h ≤ n := by
            have h1 := HA.out
            have h3 := HM.out
            have : b < M := by
              rcases Nat.lt_or_ge b M with h | h
              · exact h
              · have : b = M := by omega
                subst this; omega
            have := Nat.mul_le_mul_right (2 * h) (show b + 1 ≤ M from this)
            rw [Nat.add_mul, Nat.one_mul] at this
            omega
          have hbM : b + 1 ≤ M := by
            have h1 := HA.out
            have h3 := HM.out
            rcases Nat.lt_or_ge b M with h | h
            · exact h
            · have : b = M := by omega
              subst this; omega
          obtain ⟨o1, ho1⟩ : ∃ o1, mid (stu f pw h) h b o = o1 := ⟨_, rfl⟩
          have HO1 := Lib.hid ho1
          rw [ho1] at hown
          clear ho1
          go_wp2
          go_region
          go_wp2
          have hL1 : A + h - A = h := by omega
          have hL2 : A + 2 * h - (A + h) = h := by omega
          rw [hL1, hL2]
          clear hL1 hL2
          have P := stu_pair f hf pw h n
          have ho1L : Hid (o1.length = n) := by rw [Hid, ← HO1.out, mid_len P]; exact HOL.out
          have ho1p : Hid (∀ x ∈ o1, x < f.p) := by rw [Hid, ← HO1.out]; exact mid_lt P _ _ HS.out.lt
          go_loopw [51] (fun t wr => ∃ j : Nat, j ≤ h ∧ t = .int .i64 (j : Nat) ∧ Own wr base (.slice (some ⟨g, 0, none⟩) n c) (inn (stu f pw h) A j o1) ∧ But g w wr ∧ Bx wr w.heap.size f ∧ Rd wr q pw) (fun t _ => h - (intOf t).toNat)
          case atStart => exact ⟨0, Nat.zero_le _, rfl, hown, hB.drew, HX, hq⟩
          case round =>
            clear hown hB HX hq
            obtain ⟨j, hj, rfl, hown, hB, HX, hq⟩ := hrel
            by_cases hjh : j < h
            · obtain ⟨o2, ho2⟩ : ∃ o2, inn (stu f pw h) A j o1 = o2 := ⟨_, rfl⟩
              have ho2p : ∀ x ∈ o2, x < f.p := by rw [← ho2]; exact inn_lt P _ _ _ ho1p.out
              have ho2L : o2.length = n := by rw [← ho2, inn_len P]; exact ho1L.out
              have HO2L := Lib.hid ho2L
              have HST : Hid (inn (stu f pw h) A (j + 1) o1 = (o2.set (A + j) ((lb o2 (A + j) + mm f (lb o2 (A + h + j)) (lb pw (h + j))) % f.p)).set (A + h + j) ((lb o2 (A + j) + f.p - mm f (lb o2 (A + h + j)) (lb pw (h + j))) % f.p)) := by
                rw [Hid, inn, ho2]; rfl
              rw [ho2] at hown
              have hx1 : lb o2 (A + j) < f.p := lb_lt_of (by omega) ho2p _
              have hx2 : lb o2 (A + h + j) < f.p := lb_lt_of (by omega) ho2p _
              have hx3 : lb pw (h + j) < f.p := lb_lt_of (by omega) HP.out.lt _
              have hr1 := hq.2 (h + j) (by rw [HP.out.len, HN.out]; omega)
              have hr2 := hown.rd.2 (A + j) (by omega)
              have hr3 := hown.rd.2 (A + h + j) (by omega)
              have hfr1 := hown.frozen' (A + j)
              obtain ⟨b0, b1, b2, b3, b4, b5⟩ := id HX
              generalize lb o2 (A + j) = x at *
              generalize lb o2 (A + h + j) = y at *
              generalize lb pw (h + j) = r at *
              clear ho2 ho2p ho2L ho1L ho1p HO1 P
              have HR := Lib.hid (Nat.lt_of_lt_of_le hx3 (Nat.le_of_lt p1))
              have hS0 : (w.heap.size < wr.drew.heap.size ∧ wr.drew.cell? ⟨w.heap.size, 0, none⟩ = some (.int .u32 (f.p : Int)) ∧ wr.drew.cell? ⟨w.heap.size, 1, none⟩ = some (.int .u32 (f.root : Int)) ∧ wr.drew.cell? ⟨w.heap.size, 2, none⟩ = some (.int .u32 (f.neg : Int)) ∧ wr.drew.cell? ⟨w.heap.size, 3, none⟩ = some (.int .u32 (f.square : Int)) ∧ wr.drew.cell? ⟨w.heap.size, 4, none⟩ = some (.int .u32 (f.ahead : Int))) ∧ wr.drew.cell? ⟨g, A + j, none⟩ = some (.int .u32 (x : Nat)) ∧ wr.drew.cell? ⟨g, A + h + j, none⟩ = some (.int .u32 (y : Nat)) := ⟨⟨b0, b1, b2, b3, b4, b5⟩, hr2, hr3⟩
              have hi1 : (j : Int) < (h : Int) := by omega
              have hi0 : (0 : Int) ≤ (j : Int) := by omega
              have HMu := Lib.hid (mm_lt f hf y r)
              go_wp2
              go_region_held3 (fun X => (w.heap.size < X.heap.size ∧ X.cell? ⟨w.heap.size, 0, none⟩ = some (.int .u32 (f.p : Int)) ∧ X.cell? ⟨w.heap.size, 1, none⟩ = some (.int .u32 (f.root : Int)) ∧ X.cell? ⟨w.heap.size, 2, none⟩ = some (.int .u32 (f.neg : Int)) ∧ X.cell? ⟨w.heap.size, 3, none⟩ = some (.int .u32 (f.square : Int)) ∧ X.cell? ⟨w.heap.size, 4, none⟩ = some (.int .u32 (f.ahead : Int))) ∧ X.cell? ⟨g, A + j, none⟩ = some (.int .u32 (x : Nat)) ∧ X.cell? ⟨g, A + h + j, none⟩ = some (.int .u32 (y : Nat)))
                (first
                  | exact hS0
                  | exact keepU (by assumption) (by assumption))
                (first
                  | (go_at_call 43; ((with_reducible refine (mul_calls _ f hf y r (by omega) (by omega) (lt_prod (by omega) hx3)).mono ?_); rintro e w2 ⟨rfl, hB2⟩)))
              go_wp2
              replace hB2 : Ext wr w2 := ((Ext.refl wr).drew).below hB2
              have hs2 := hown.ext hB2
              have hB3 := hB.ext hB2
              have hX2 := HX.ext hB2
              have hq2 : Rd w2 q pw := ((But.refl g wr).ext hB2).rd hq hqg
              have hx4 := HMu.out
              generalize mm f y r = m at *
              clear hown hB HX hq b0 b1 b2 b3 b4 b5 hr2 hr3 hr1 hfr1 hS0 HMu hB2
              have hso : Own w2.drew base (.slice (some ⟨g, 0, none⟩) n c) o2 := hs2
              have hBo : But g w w2.drew := hB3.drew
              have hqo : Rd w2.drew q pw := hq2
              have hS1 : (w.heap.size < w2.drew.heap.size ∧ w2.drew.cell? ⟨w.heap.size, 0, none⟩ = some (.int .u32 (f.p : Int)) ∧ w2.drew.cell? ⟨w.heap.size, 1, none⟩ = some (.int .u32 (f.root : Int)) ∧ w2.drew.cell? ⟨w.heap.size, 2, none⟩ = some (.int .u32 (f.neg : Int)) ∧ w2.drew.cell? ⟨w.heap.size, 3, none⟩ = some (.int .u32 (f.square : Int)) ∧ w2.drew.cell? ⟨w.heap.size, 4, none⟩ = some (.int .u32 (f.ahead : Int))) := hX2
              clear hs2 hB3 hX2 hq2
              have hl1 : A + j < o2.length := by have := HO2L.out; omega
              have hl2 : A + h + j < o2.length := by have := HO2L.out; omega
              have hne1 : ¬ A + j = A + h + j := by omega
              have hne2 : ¬ A + h + j = A + j := by omega
              obtain ⟨z, hz⟩ : ∃ z, (x + m) % f.p = z := ⟨_, rfl⟩
              obtain ⟨v, hv⟩ : ∃ v, (x + f.p - m) % f.p = v := ⟨_, rfl⟩
              have HZ : Hid (∀ W, Calls Tryd.prog 55 #[f.V, .int .u32 (x : Nat), .int .u32 (m : Nat)] W fun e w' => e = .returned (.int .u32 (z : Nat)) ∧ Ext W w') := fun W => by have := add_calls W f hf x m hx1 hx4; rwa [hz] at this
              have HV : Hid (∀ W, Calls Tryd.prog 52 #[f.V, .int .u32 (x : Nat), .int .u32 (m : Nat)] W fun e w' => e = .returned (.int .u32 (v : Nat)) ∧ Ext W w') := fun W => by have := sub_calls W f hf x m hx1 hx4; rwa [hv] at this
              rw [hz, hv] at HST
              clear hz hv
              go_region_held3 (fun X => (w.heap.size < X.heap.size ∧ X.cell? ⟨w.heap.size, 0, none⟩ = some (.int .u32 (f.p : Int)) ∧ X.cell? ⟨w.heap.size, 1, none⟩ = some (.int .u32 (f.root : Int)) ∧ X.cell? ⟨w.heap.size, 2, none⟩ = some (.int .u32 (f.neg : Int)) ∧ X.cell? ⟨w.heap.size, 3, none⟩ = some (.int .u32 (f.square : Int)) ∧ X.cell? ⟨w.heap.size, 4, none⟩ = some (.int .u32 (f.ahead : Int))))
                (first
                  | exact hS1
                  | assumption
                  | exact keep5 (by assumption) (by assumption)
                  | exact keepS (by assumption) hwg)
                (first
                  | (go_at_call 55; ((with_reducible refine (HZ.out _).mono ?_); rintro e w5 ⟨rfl, hB5⟩; have hs5 := Own.ext (by assumption) hB5; have hB6 := But.ext (g := g) (by assumption) hB5; have hX5 := keep5 (by assumption) hB5; have hq5 := (But.ext (But.refl g _) hB5).rd (by assumption) hqg; have hc5 := hs5.rd.2 (A + j) hl1; have hc6 := hs5.rd.2 (A + h + j) hl2; have hf5 := hs5.frozen' (A + j); have hf6 := hs5.frozen' (A + h + j)))
                  | (go_at_call 52; ((with_reducible refine (HV.out _).mono ?_); rintro e w5 ⟨rfl, hB5⟩; have hs5 := Own.ext (by assumption) hB5; have hB6 := But.ext (g := g) (by assumption) hB5; have hX5 := keep5 (by assumption) hB5; have hq5 := (But.ext (But.refl g _) hB5).rd (by assumption) hqg; have hc5 := hs5.rd.2 (A + j) hl1; have hc6 := hs5.rd.2 (A + h + j) hl2; have hf5 := hs5.frozen' (A + j); have hf6 := hs5.frozen' (A + h + j))))
              have hs8 := (hs5.set' (A + j) z).set' (A + h + j) v
              rw [← HST.out] at hs8
              have hB8 := (hB6.setCell (A + j) (.int .u32 (z : Nat))).setCell (A + h + j) (.int .u32 (v : Nat))
              have hX8 : Bx ((w5.setCell ⟨g, A + j, none⟩ (.int .u32 (z : Nat))).setCell ⟨g, A + h + j, none⟩ (.int .u32 (v : Nat))) w.heap.size f := (But.bx (g := g) (by first | exact (((But.refl g w5).setCell (A + j) (.int .u32 (z : Nat))).setCell (A + h + j) (.int .u32 (v : Nat)))) hX5 hwg)
              have hq8 := (((But.refl g w5).setCell (A + j) (.int .u32 (z : Nat))).setCell (A + h + j) (.int .u32 (v : Nat))).rd hq5 hqg
              clear hs5 hB6 hq5 hc5 hc6 hf5 hf6 HST hS1 HZ HV hso hBo hqo
              go_wp2
              go_roundw
              case rel => exact ⟨j + 1, by omega, by go_num, hs8, hB8, hX8, hq8⟩
              case measure => simp [intOf]; omega
            · obtain rfl : j = h := by omega
              have hfin : Hid (inn (stu f pw j) A j o1 = mid (stu f pw j) j (b + 1) o) := by rw [Hid, mid, ← HA.out, HO1.out]
              rw [hfin.out] at hown
              have hA3 : Hid (A + 2 * j = (b + 1) * (2 * j)) := by rw [Hid, Nat.add_mul, Nat.one_mul, HA.out]
              clear ho1L ho1p HO1 P hjh
              go_wp2
              go_roundw
              case rel => exact ⟨b + 1, A + 2 * j, by omega, hA3, by go_num, by omega, hown, hB, HX, hq⟩
              case measure => simp [intOf]; omega
        · obtain rfl : A = n := by omega
          have hbM : b = M := by
            have h1 := HA.out
            have h3 := HM.out
            rcases Nat.lt_or_ge b M with hbM | hbM
            · have := Nat.mul_lt_mul_of_pos_right hbM (show 0 < 2 * h by omega)
              omega
            · omega
          have HD : Hid (UpL f k W l (s + 1) (mid (stu f pw h) h b o)) := by
            have := HS.out.step hf hr HP.out hs
            rw [HHH.out, HMM.out, ← hbM] at this
            exact this
          generalize mid (stu f pw h) h b o = o3 at *
          have h2n : Hid (2 ^ (s + 1) = h * 2) := by rw [Hid, Nat.pow_succ, HHH.out]
          clear HA HM hlt
          go_wp2
          go_roundw
          case rel => exact ⟨s + 1, h * 2, o3, by omega, by go_num, h2n, HD, hown, hB, HX, hq⟩
          case measure => simp [intOf]; omega
    · have hhn : n = h := by rw [← HN.out, HHH.out]
      have HF : Hid (o.length = n) := by rw [Hid, HS.out.len]; exact HN.out
      subst hhn
      go_wp2
      go_end0
      exact ⟨rfl, ⟨o, HS.out, by rw [HF.out]; exact hown⟩, hB⟩
end Go.Proofs.YtofhpfmgopmcmaaDoor
