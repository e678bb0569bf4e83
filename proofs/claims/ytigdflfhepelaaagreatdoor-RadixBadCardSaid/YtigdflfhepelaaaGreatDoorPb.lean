/- A transform in its place, on the way up. -/
import Derived.Test.YtigdflfhepelaaaGreatDoorPa
import Derived.Laws.Externs
import Derived.Laws.StructEq
import Derived.Laws.Cover2
import Derived.Laws.Tables
import Derived.Laws.Small
import Derived.Test.YtigdflfhepelaaaGreatDoorRows
import Derived.Test.YtigdflfhepelaaaGreatDoorCards
import Derived.Test.YtigdflfhepelaaaGreatDoorTie
import Derived.SevenTiedAt
import Derived.LaidMore
import Derived.Stop.Joined
import Derived.JoinedOf
import Derived.JoinedAt
import Derived.Lib.SmallJoins
import Derived.Laws.BitsLemmas
import Derived.Deep.RegionHeld3

namespace Go.Proofs.YtigdflfhepelaaaGreatDoor
open Go.RowKit
set_option linter.unusedVariables false
set_option maxHeartbeats 400000

theorem keepU {x y : World} {B g a b : Nat} {f : Fd} {u v : Value} (h : (B < x.heap.size ∧ x.cell? ⟨B, 0, none⟩ = some (.int .u32 (f.p : Int)) ∧ x.cell? ⟨B, 1, none⟩ = some (.int .u32 (f.root : Int)) ∧ x.cell? ⟨B, 2, none⟩ = some (.int .u32 (f.neg : Int)) ∧ x.cell? ⟨B, 3, none⟩ = some (.int .u32 (f.square : Int)) ∧ x.cell? ⟨B, 4, none⟩ = some (.int .u32 (f.ahead : Int))) ∧ x.cell? ⟨g, a, none⟩ = some u ∧ x.cell? ⟨g, b, none⟩ = some v) (hB : Ext x y) :
    (B < y.heap.size ∧ y.cell? ⟨B, 0, none⟩ = some (.int .u32 (f.p : Int)) ∧ y.cell? ⟨B, 1, none⟩ = some (.int .u32 (f.root : Int)) ∧ y.cell? ⟨B, 2, none⟩ = some (.int .u32 (f.neg : Int)) ∧ y.cell? ⟨B, 3, none⟩ = some (.int .u32 (f.square : Int)) ∧ y.cell? ⟨B, 4, none⟩ = some (.int .u32 (f.ahead : Int))) ∧ y.cell? ⟨g, a, none⟩ = some u ∧ y.cell? ⟨g, b, none⟩ = some v :=
  ⟨Bx.ext (f := f) h.1 hB, (hB.cell (p := ⟨g, a, none⟩) (World.block_lt_of_cell? x _ h.2.1)).trans h.2.1, (hB.cell (p := ⟨g, b, none⟩) (World.block_lt_of_cell? x _ h.2.2)).trans h.2.2⟩

theorem keep5 {x y : World} {B : Nat} {f : Fd} (h : (B < x.heap.size ∧ x.cell? ⟨B, 0, none⟩ = some (.int .u32 (f.p : Int)) ∧ x.cell? ⟨B, 1, none⟩ = some (.int .u32 (f.root : Int)) ∧ x.cell? ⟨B, 2, none⟩ = some (.int .u32 (f.neg : Int)) ∧ x.cell? ⟨B, 3, none⟩ = some (.int .u32 (f.square : Int)) ∧ x.cell? ⟨B, 4, none⟩ = some (.int .u32 (f.ahead : Int)))) (hB : Ext x y) : (B < y.heap.size ∧ y.cell? ⟨B, 0, none⟩ = some (.int .u32 (f.p : Int)) ∧ y.cell? ⟨B, 1, none⟩ = some (.int .u32 (f.root : Int)) ∧ y.cell? ⟨B, 2, none⟩ = some (.int .u32 (f.neg : Int)) ∧ y.cell? ⟨B, 3, none⟩ = some (.int .u32 (f.square : Int)) ∧ y.cell? ⟨B, 4, none⟩ = some (.int .u32 (f.ahead : Int))) := Bx.ext (f := f) h hB
theorem keepS {x : World} {B g i : Nat} {v : Value} {f : Fd} (h : (B < x.heap.size ∧ x.cell? ⟨B, 0, none⟩ = some (.int .u32 (f.p : Int)) ∧ x.cell? ⟨B, 1, none⟩ = some (.int .u32 (f.root : Int)) ∧ x.cell? ⟨B, 2, none⟩ = some (.int .u32 (f.neg : Int)) ∧ x.cell? ⟨B, 3, none⟩ = some (.int .u32 (f.square : Int)) ∧ x.cell? ⟨B, 4, none⟩ = some (.int .u32 (f.ahead : Int)))) (hne : B ≠ g) : (B < (x.setCell ⟨g, i, none⟩ v).heap.size ∧ (x.setCell ⟨g, i, none⟩ v).cell? ⟨B, 0, none⟩ = some (.int .u32 (f.p : Int)) ∧ (x.setCell ⟨g, i, none⟩ v).cell? ⟨B, 1, none⟩ = some (.int .u32 (f.root : Int)) ∧ (x.setCell ⟨g, i, none⟩ v).cell? ⟨B, 2, none⟩ = some (.int .u32 (f.neg : Int)) ∧ (x.setCell ⟨g, i, none⟩ v).cell? ⟨B, 3, none⟩ = some (.int .u32 (f.square : Int)) ∧ (x.setCell ⟨g, i, none⟩ v).cell? ⟨B, 4, none⟩ = some (.int .u32 (f.ahead : Int))) := ((But.refl g x).setCell i v).bx (f := f) h hne

set_option maxRecDepth 100000 in
set_option maxHeartbeats 4000000 in
theorem up_calls (w : World) (f : Fd) (hf : Good f) (k W : Nat) (l pw : List Nat) (g q c base : Nat) (hk : k ≤ 20) (hr : Rt f.p W k) (hp : Pw f k W pw)
    (hl : l.length = 2 ^ k) (hlt : ∀ x ∈ l, x < f.p) (hown : Own w base (.slice (some ⟨g, 0, none⟩) l.length c) l) (hq : Rd w q pw) (hqg : q ≠ g) :
    Calls Tryz.prog 135 #[f.V, .slice (some ⟨g, 0, none⟩) l.length c, .slice (some ⟨q, 0, none⟩) pw.length pw.length] w fun e w' => e = .returned (.tuple #[]) ∧ (∃ o, UpL f k W l k o ∧ Own w' base (.slice (some ⟨g, 0, none⟩) o.length c) o) ∧ But g w w' := by
  have p0 := hf.p0
  have p1 := hf.p1
  have HX := Bx.new w f
  have hpl := hp.len
  obtain ⟨n, hn⟩ : ∃ n, 2 ^ k = n := ⟨_, rfl⟩
  have hn1 : n ≤ 1048576 := by rw [← hn]; exact Nat.pow_le_pow_right (by decide) hk
  have hn0 : 0 < n := by rw [← hn]; exact Nat.two_pow_pos k
  have hcap := hown.caps
  have hgb := hown.block
  have hB0 : But g w (w.alloc (.cells #[.int .u32 (f.p : Int), .int .u32 (f.root : Int), .int .u32 (f.neg : Int), .int .u32 (f.square : Int), .int .u32 (f.ahead : Int)] 137)) := (But.refl g w).ext ((Ext.refl w).alloc _)
  have hq0 := hB0.rd hq hqg
  have hown0 := hown.ext ((Ext.refl w).alloc (.cells #[.int .u32 (f.p : Int), .int .u32 (f.root : Int), .int .u32 (f.neg : Int), .int .u32 (f.square : Int), .int .u32 (f.ahead : Int)] 137))
  have hwg : w.heap.size ≠ g := by omega
  rw [hn] at hl hpl
  rw [hl] at hown0 hcap ⊢
  rw [hpl]
  have HS : Hid (UpL f k W l 0 l) := UpL.start f k W l (by rw [hl, hn]) hlt
  have HN := Lib.hid hn
  have HP := Lib.hid hp
  clear hn hown hq hp hlt hpl hl
  obtain ⟨hc1, hc2, hc3⟩ := hcap
  unfold maxLen at hc3
  unfold Fd.V
  go_enter Tryz.func135, Tryz.ntmps135
  go_wp2
  go_loopw [6] (fun h wr => ∃ (s H : Nat) (o : List Nat), s ≤ k ∧ h = .int .i64 (H : Nat) ∧ Hid (2 ^ s = H) ∧ Hid (UpL f k W l s o) ∧ Own wr base (.slice (some ⟨g, 0, none⟩) n c) o ∧ But g w wr ∧ Bx wr w.heap.size f ∧ Rd wr q pw) (fun h _ => n - (intOf h).toNat)
  case atStart => exact ⟨0, 1, l, Nat.zero_le _, rfl, rfl, HS, hown0, hB0, HX, hq0⟩
  case round =>
    clear HX hq0 hown0 hB0 HS
    obtain ⟨s, h, o, hs, rfl, HHH, HS, hown, hB, HX, hq⟩ := hrel
    rcases Nat.lt_or_eq_of_le hs with hs | rfl
    · have hh := HHH.out
      have hM : 2 ^ (k - (s + 1)) * (2 * h) = n := by rw [← hh, ← Nat.pow_succ', ← Nat.pow_add, ← HN.out]; congr 1; omega
      have hh0 : 0 < h := by rw [← hh]; exact Nat.two_pow_pos s
      obtain ⟨M, hMM⟩ : ∃ M, 2 ^ (k - (s + 1)) = M := ⟨_, rfl⟩
      rw [hMM] at hM
      have HMM := Lib.hid hMM
      clear hMM
      have hM0 : 0 < M := by rcases Nat.eq_zero_or_pos M with e | e; · rw [e] at hM; omega
                             · exact e
      have h2h : 2 * h ≤ n := by rw [← hM]; exact Nat.le_mul_of_pos_left _ hM0
      have HM := Lib.hid hM
      have h2 : 2 * h - h = h := by omega
      have hhn : h < n := by omega
      have hhd : decide (h < n) = true := decide_eq_true hhn
      have hoL : o.length = n := by rw [HS.out.len]; exact HN.out
      have HOL := Lib.hid hoL
      clear hM hh hoL
      go_wp2
      rw [h2]
      clear h2
      go_loopw [8] (fun a wr => ∃ (b A : Nat), b ≤ M ∧ Hid (A = b * (2 * h)) ∧ a = .int .i64 (A : Nat) ∧ A ≤ n ∧ Own wr base (.slice (some ⟨g, 0, none⟩) n c) (mid (stu f pw h) h b o) ∧ But g w wr ∧ Bx wr w.heap.size f ∧ Rd wr q pw) (fun a _ => n - (intOf a).toNat)
      case atStart => exact ⟨0, 0, Nat.zero_le _, by rw [Hid, Nat.zero_mul], rfl, Nat.zero_le _, hown, hB, HX, hq⟩
      case round =>
        clear hown hB HX hq
        obtain ⟨b, A, hb, HA, rfl, hAn, hown, hB, HX, hq⟩ := hrel
        by_cases hlt : A < n
        · have hA2 : A + 2 * h ≤ n := by
            have h1 := HA.out
            have h3 := HM.out
            have : b < M := by
              rcases Nat.lt_or_ge b M with h | h
              · exact h
              · have : b = M := by omega
                subst this; omega
            have := Nat.mul_le_mul_right (2 * h) (show b + 1 ≤ M from this)
            rw [Nat.add_mul, Nat.one_mul] at this
            omega
          have hbM : b + 1 ≤ M := by
            have h1 := HA.out
            have h3 := HM.out
            rcases Nat.lt_or_ge b M with h | h
            · exact h
            · have : b = M := by omega
              subst this; omega
          obtain ⟨o1, ho1⟩ : ∃ o1, mid (stu f pw h) h b o = o1 := ⟨_, rfl⟩
          have HO1 := Lib.hid ho1
          rw [ho1] at hown
          clear ho1
          go_wp2
          go_region
          go_wp2
          have hL1 : A + h - A = h := by omega
          have hL2 : A + 2 * h - (A + h) = h := by omega
          rw [hL1, hL2]
          clear hL1 hL2
          have P := stu_pair f hf pw h n
          have ho1L : Hid (o1.length = n) := by rw [Hid, ← HO1.out, mid_len P]; exact HOL.out
          have ho1p : Hid (∀ x ∈ o1, x < f.p) := by rw [Hid, ← HO1.out]; exact mid_lt P _ _ HS.out.lt
          go_loopw [51] (fun t wr => ∃ j : Nat, j ≤ h ∧ t = .int .i64 (j : Nat) ∧ Own wr base (.slice (some ⟨g, 0, none⟩) n c) (inn (stu f pw h) A j o1) ∧ But g w wr ∧ Bx wr w.heap.size f ∧ Rd wr q pw) (fun t _ => h - (intOf t).toNat)
          case atStart => exact ⟨0, Nat.zero_le _, rfl, hown, hB.drew, HX, hq⟩
          case round =>
            clear hown hB HX hq
            obtain ⟨j, hj, rfl, hown, hB, HX, hq⟩ := hrel
            by_cases hjh : j < h
            · obtain ⟨o2, ho2⟩ : ∃ o2, inn (stu f pw h) A j o1 = o2 := ⟨_, rfl⟩
              have ho2p : ∀ x ∈ o2, x < f.p := by rw [← ho2]; exact inn_lt P _ _ _ ho1p.out
              have ho2L : o2.length = n := by rw [← ho2, inn_len P]; exact ho1L.out
              have HO2L := Lib.hid ho2L
              have HST : Hid (inn (stu f pw h) A (j + 1) o1 = (o2.set (A + j) ((lb o2 (A + j) + mm f (lb o2 (A + h + j)) (lb pw (h + j))) % f.p)).set (A + h + j) ((lb o2 (A + j) + f.p - mm f (lb o2 (A + h + j)) (lb pw (h + j))) % f.p)) := by
                rw [Hid, inn, ho2]; rfl
              rw [ho2] at hown
              have hx1 : lb o2 (A + j) < f.p := lb_lt_of (by omega) ho2p _
              have hx2 : lb o2 (A + h + j) < f.p := lb_lt_of (by omega) ho2p _
              have hx3 : lb pw (h + j) < f.p := lb_lt_of (by omega) HP.out.lt _
              have hr1 := hq.2 (h + j) (by rw [HP.out.len, HN.out]; omega)
              have hr2 := hown.rd.2 (A + j) (by omega)
              have hr3 := hown.rd.2 (A + h + j) (by omega)
              have hfr1 := hown.frozen' (A + j)
              obtain ⟨b0, b1, b2, b3, b4, b5⟩ := id HX
              generalize lb o2 (A + j) = x at *
              generalize lb o2 (A + h + j) = y at *
              generalize lb pw (h + j) = r at *
              clear ho2 ho2p ho2L ho1L ho1p HO1 P
              have HR := Lib.hid (Nat.lt_of_lt_of_le hx3 (Nat.le_of_lt p1))
              have hS0 : (w.heap.size < wr.drew.heap.size ∧ wr.drew.cell? ⟨w.heap.size, 0, none⟩ = some (.int .u32 (f.p : Int)) ∧ wr.drew.cell? ⟨w.heap.size, 1, none⟩ = some (.int .u32 (f.root : Int)) ∧ wr.drew.cell? ⟨w.heap.size, 2, none⟩ = some (.int .u32 (f.neg : Int)) ∧ wr.drew.cell? ⟨w.heap.size, 3, none⟩ = some (.int .u32 (f.square : Int)) ∧ wr.drew.cell? ⟨w.heap.size, 4, none⟩ = some (.int .u32 (f.ahead : Int))) ∧ wr.drew.cell? ⟨g, A + j, none⟩ = some (.int .u32 (x : Nat)) ∧ wr.drew.cell? ⟨g, A + h + j, none⟩ = some (.int .u32 (y : Nat)) := ⟨⟨b0, b1, b2, b3, b4, b5⟩, hr2, hr3⟩
              have hi1 : (j : Int) < (h : Int) := by omega
              have hi0 : (0 : Int) ≤ (j : Int) := by omega
              have HMu := Lib.hid (mm_lt f hf y r)
              go_wp2
              go_region_held3 (fun X => (w.heap.size < X.heap.size ∧ X.cell? ⟨w.heap.size, 0, none⟩ = some (.int .u32 (f.p : Int)) ∧ X.cell? ⟨w.heap.size, 1, none⟩ = some (.int .u32 (f.root : Int)) ∧ X.cell? ⟨w.heap.size, 2, none⟩ = some (.int .u32 (f.neg : Int)) ∧ X.cell? ⟨w.heap.size, 3, none⟩ = some (.int .u32 (f.square : Int)) ∧ X.cell? ⟨w.heap.size, 4, none⟩ = some (.int .u32 (f.ahead : Int))) ∧ X.cell? ⟨g, A + j, none⟩ = some (.int .u32 (x : Nat)) ∧ X.cell? ⟨g, A + h + j, none⟩ = some (.int .u32 (y : Nat)))
                (first
                  | exact hS0
                  | exact keepU (by assumption) (by assumption))
                (first
                  | (go_at_call 134; ((with_reducible refine (mul_calls _ f hf y r (by omega) (by omega) (lt_prod (by omega) hx3)).mono ?_); rintro e w2 ⟨rfl, hB2⟩)))
              go_wp2
              replace hB2 : Ext wr w2 := ((Ext.refl wr).drew).below hB2
              have hs2 := hown.ext hB2
              have hB3 := hB.ext hB2
              have hX2 := HX.ext hB2
              have hq2 : Rd w2 q pw := ((But.refl g wr).ext hB2).rd hq hqg
              have hx4 := HMu.out
              generalize mm f y r = m at *
              clear hown hB HX hq b0 b1 b2 b3 b4 b5 hr2 hr3 hr1 hfr1 hS0 HMu hB2
              have hso : Own w2.drew base (.slice (some ⟨g, 0, none⟩) n c) o2 := hs2
              have hBo : But g w w2.drew := hB3.drew
              have hqo : Rd w2.drew q pw := hq2
              have hS1 : (w.heap.size < w2.drew.heap.size ∧ w2.drew.cell? ⟨w.heap.size, 0, none⟩ = some (.int .u32 (f.p : Int)) ∧ w2.drew.cell? ⟨w.heap.size, 1, none⟩ = some (.int .u32 (f.root : Int)) ∧ w2.drew.cell? ⟨w.heap.size, 2, none⟩ = some (.int .u32 (f.neg : Int)) ∧ w2.drew.cell? ⟨w.heap.size, 3, none⟩ = some (.int .u32 (f.square : Int)) ∧ w2.drew.cell? ⟨w.heap.size, 4, none⟩ = some (.int .u32 (f.ahead : Int))) := hX2
              clear hs2 hB3 hX2 hq2
              have hl1 : A + j < o2.length := by have := HO2L.out; omega
              have hl2 : A + h + j < o2.length := by have := HO2L.out; omega
              have hne1 : ¬ A + j = A + h + j := by omega
              have hne2 : ¬ A + h + j = A + j := by omega
              obtain ⟨z, hz⟩ : ∃ z, (x + m) % f.p = z := ⟨_, rfl⟩
              obtain ⟨v, hv⟩ : ∃ v, (x + f.p - m) % f.p = v := ⟨_, rfl⟩
              have HZ : Hid (∀ W, Calls Tryz.prog 147 #[f.V, .int .u32 (x : Nat), .int .u32 (m : Nat)] W fun e w' => e = .returned (.int .u32 (z : Nat)) ∧ Ext W w') := fun W => by have := add_calls W f hf x m hx1 hx4; rwa [hz] at this
              have HV : Hid (∀ W, Calls Tryz.prog 139 #[f.V, .int .u32 (x : Nat), .int .u32 (m : Nat)] W fun e w' => e = .returned (.int .u32 (v : Nat)) ∧ Ext W w') := fun W => by have := sub_calls W f hf x m hx1 hx4; rwa [hv] at this
              rw [hz, hv] at HST
              clear hz hv
              go_region_held3 (fun X => (w.heap.size < X.heap.size ∧ X.cell? ⟨w.heap.size, 0, none⟩ = some (.int .u32 (f.p : Int)) ∧ X.cell? ⟨w.heap.size, 1, none⟩ = some (.int .u32 (f.root : Int)) ∧ X.cell? ⟨w.heap.size, 2, none⟩ = some (.int .u32 (f.neg : Int)) ∧ X.cell? ⟨w.heap.size, 3, none⟩ = some (.int .u32 (f.square : Int)) ∧ X.cell? ⟨w.heap.size, 4, none⟩ = some (.int .u32 (f.ahead : Int))))
                (first
                  | exact hS1
                  | assumption
                  | exact keep5 (by assumption) (by assumption)
                  | exact keepS (by assumption) hwg)
                (first
                  | (go_at_call 147; ((with_reducible refine (HZ.out _).mono ?_); rintro e w5 ⟨rfl, hB5⟩; have hs5 := Own.ext (by assumption) hB5; have hB6 := But.ext (g := g) (by assumption) hB5; have hX5 := keep5 (by assumption) hB5; have hq5 := (But.ext (But.refl g _) hB5).rd (by assumption) hqg; have hc5 := hs5.rd.2 (A + j) hl1; have hc6 := hs5.rd.2 (A + h + j) hl2; have hf5 := hs5.frozen' (A + j); have hf6 := hs5.frozen' (A + h + j)))
                  | (go_at_call 139; ((with_reducible refine (HV.out _).mono ?_); rintro e w5 ⟨rfl, hB5⟩; have hs5 := Own.ext (by assumption) hB5; have hB6 := But.ext (g := g) (by assumption) hB5; have hX5 := keep5 (by assumption) hB5; have hq5 := (But.ext (But.refl g _) hB5).rd (by assumption) hqg; have hc5 := hs5.rd.2 (A + j) hl1; have hc6 := hs5.rd.2 (A + h + j) hl2; have hf5 := hs5.frozen' (A + j); have hf6 := hs5.frozen' (A + h + j))))
              have hs8 := (hs5.set' (A + j) z).set' (A + h + j) v
              rw [← HST.out] at hs8
              have hB8 := (hB6.setCell (A + j) (.int .u32 (z : Nat))).setCell (A + h + j) (.int .u32 (v : Nat))
              have hX8 : Bx ((w5.setCell ⟨g, A + j, none⟩ (.int .u32 (z : Nat))).setCell ⟨g, A + h + j, none⟩ (.int .u32 (v : Nat))) w.heap.size f := (But.bx (g := g) (by first | exact (((But.refl g w5).setCell (A + j) (.int .u32 (z : Nat))).setCell (A + h + j) (.int .u32 (v : Nat)))) hX5 hwg)
              have hq8 := (((But.refl g w5).setCell (A + j) (.int .u32 (z : Nat))).setCell (A + h + j) (.int .u32 (v : Nat))).rd hq5 hqg
              clear hs5 hB6 hq5 hc5 hc6 hf5 hf6 HST hS1 HZ HV hso hBo hqo
              go_wp2
              go_roundw
              case rel => exact ⟨j + 1, by omega, by go_num, hs8, hB8, hX8, hq8⟩
              case measure => simp [intOf]; omega
            · obtain rfl : j = h := by omega
              have hfin : Hid (inn (stu f pw j) A j o1 = mid (stu f pw j) j (b + 1) o) := by rw [Hid, mid, ← HA.out, HO1.out]
              rw [hfin.out] at hown
              have hA3 : Hid (A + 2 * j = (b + 1) * (2 * j)) := by rw [Hid, Nat.add_mul, Nat.one_mul, HA.out]
              clear ho1L ho1p HO1 P hjh
              go_wp2
              go_roundw
              case rel => exact ⟨b + 1, A + 2 * j, by omega, hA3, by go_num, by omega, hown, hB, HX, hq⟩
              case measure => simp [intOf]; omega
        · obtain rfl : A = n := by omega
          have hbM : b = M := by
            have h1 := HA.out
            have h3 := HM.out
            rcases Nat.lt_or_ge b M with hbM | hbM
            · have := Nat.mul_lt_mul_of_pos_right hbM (show 0 < 2 * h by omega)
              omega
            · omega
          have HD : Hid (UpL f k W l (s + 1) (mid (stu f pw h) h b o)) := by
            have := HS.out.step hf hr HP.out hs
            rw [HHH.out, HMM.out, ← hbM] at this
            exact this
          generalize mid (stu f pw h) h b o = o3 at *
          have h2n : Hid (2 ^ (s + 1) = h * 2) := by rw [Hid, Nat.pow_succ, HHH.out]
          clear HA HM hlt
          go_wp2
          go_roundw
          case rel => exact ⟨s + 1, h * 2, o3, by omega, by go_num, h2n, HD, hown, hB, HX, hq⟩
          case measure => simp [intOf]; omega
    · have hhn : n = h := by rw [← HN.out, HHH.out]
      have HF : Hid (o.length = n) := by rw [Hid, HS.out.len]; exact HN.out
      subst hhn
      go_wp2
      go_end0
      exact ⟨rfl, ⟨o, HS.out, by rw [HF.out]; exact hown⟩, hB⟩
end Go.Proofs.YtigdflfhepelaaaGreatDoor
/- Bits turned round. -/
namespace Go.Proofs.YtigdflfhepelaaaGreatDoor
open Go.RowKit
set_option linter.unusedVariables false
set_option maxHeartbeats 400000

theorem rev_bit (s b i : Nat) : (rev s b).testBit i = (decide (i < s) && b.testBit (s - 1 - i)) := by
  induction s generalizing b i with
  | zero => simp [rev]
  | succ s ih =>
    have hlt := rev_lt s (b / 2)
    rw [rev, Nat.add_comm, Nat.mul_comm, Nat.testBit_two_pow_mul_add _ hlt]
    by_cases h : i < s
    · rw [if_pos h, ih, decide_eq_true h, decide_eq_true (show i < s + 1 by omega), Nat.testBit_div_two, show s - 1 - i + 1 = s + 1 - 1 - i by omega]
    · rw [if_neg h]
      by_cases e : i = s
      · subst e
        rw [Nat.sub_self, decide_eq_true (show i < i + 1 by omega), show i + 1 - 1 - i = 0 by omega]
        simp [Nat.testBit_zero]
      · rw [decide_eq_false (show ¬ i < s + 1 by omega), Bool.false_and]
        exact Nat.testBit_lt_two_pow (Nat.lt_of_lt_of_le (Nat.mod_lt _ (by decide)) (by have := Nat.pow_le_pow_right (n := 2) (by decide) (show 1 ≤ i - s by omega); simpa using this))
/-- Groups of s bits exchanged with their neighbours. -/
def swp (m s x : Nat) : Nat := x / 2 ^ s &&& m ||| (x &&& m) * 2 ^ s % 4294967296
theorem swp_lt (m s x : Nat) (hm : m < 4294967296) : swp m s x < 4294967296 := by
  have h1 : x / 2 ^ s &&& m < 2 ^ 32 := Nat.and_lt_two_pow _ (by simpa using hm)
  have h2 : (x &&& m) * 2 ^ s % 4294967296 < 2 ^ 32 := Nat.mod_lt _ (by decide)
  exact Nat.or_lt_two_pow h1 h2
theorem swp_bit (m s x i : Nat) (hi : i < 32) : (swp m s x).testBit i = (x.testBit (i + s) && m.testBit i || (decide (s ≤ i) && (x.testBit (i - s) && m.testBit (i - s)))) := by
  unfold swp
  rw [Nat.testBit_or, Nat.testBit_and, Nat.testBit_div_two_pow, show (4294967296 : Nat) = 2 ^ 32 by rfl, Nat.testBit_mod_two_pow, decide_eq_true hi, Bool.true_and, Nat.testBit_mul_two_pow, Nat.testBit_and]
theorem swp_cast (m s x : Nat) (hm : m < 4294967296) (hx : x < 4294967296) (M S : Int) (hM : M = (m : Int)) (hS : S = ((2 ^ s : Nat) : Int)) :
    bits .or .u32 (bits .and .u32 ((x : Int) / S) M) (bits .and .u32 (x : Int) M * S % 4294967296) = ((swp m s x : Nat) : Int) := by
  subst hM hS
  have e1 : (x : Int) / ((2 ^ s : Nat) : Int) = ((x / 2 ^ s : Nat) : Int) := by rw [Int.natCast_ediv]
  have e2 : ((x &&& m : Nat) : Int) * ((2 ^ s : Nat) : Int) % 4294967296 = (((x &&& m) * 2 ^ s % 4294967296 : Nat) : Int) := by rw [Int.natCast_emod, Int.natCast_mul]; rfl
  rw [e1, u32_and_nat _ _ (Nat.lt_of_le_of_lt (Nat.div_le_self _ _) hx) hm, u32_and_nat _ _ hx hm, e2, u32_or_nat _ _ (Nat.and_lt_two_pow (n := 32) _ hm) (Nat.mod_lt _ (by decide))]
  rfl
def bsw (x : Nat) : Nat := x / 2 ^ 16 ||| x * 2 ^ 16 % 4294967296
theorem bsw_bit (x i : Nat) (hi : i < 32) : (bsw x).testBit i = (x.testBit (i + 16) || (decide (16 ≤ i) && x.testBit (i - 16))) := by
  unfold bsw
  rw [Nat.testBit_or, Nat.testBit_div_two_pow, show (4294967296 : Nat) = 2 ^ 32 by rfl, Nat.testBit_mod_two_pow, decide_eq_true hi, Bool.true_and, Nat.testBit_mul_two_pow]
theorem bsw_cast (x : Nat) (hx : x < 4294967296) : bits .or .u32 ((x : Int) / 65536) ((x : Int) * 65536 % 4294967296) = ((bsw x : Nat) : Int) := by
  have e1 : (x : Int) / 65536 = ((x / 2 ^ 16 : Nat) : Int) := by rw [Int.natCast_ediv]; rfl
  have e2 : (x : Int) * 65536 % 4294967296 = ((x * 2 ^ 16 % 4294967296 : Nat) : Int) := by rw [Int.natCast_emod, Int.natCast_mul]; rfl
  rw [e1, e2, u32_or_nat _ _ (Nat.lt_of_le_of_lt (Nat.div_le_self _ _) hx) (Nat.mod_lt _ (by decide))]
  rfl
theorem m1 (j : Nat) (h : j < 32) : Nat.testBit 1431655765 j = (j % 2 == 0) := (by decide : ∀ j : Fin 32, Nat.testBit 1431655765 j.1 = (j.1 % 2 == 0)) ⟨j, h⟩
theorem m2 (j : Nat) (h : j < 32) : Nat.testBit 858993459 j = decide (j % 4 < 2) := (by decide : ∀ j : Fin 32, Nat.testBit 858993459 j.1 = decide (j.1 % 4 < 2)) ⟨j, h⟩
theorem m3 (j : Nat) (h : j < 32) : Nat.testBit 252645135 j = decide (j % 8 < 4) := (by decide : ∀ j : Fin 32, Nat.testBit 252645135 j.1 = decide (j.1 % 8 < 4)) ⟨j, h⟩
theorem m4 (j : Nat) (h : j < 32) : Nat.testBit 16711935 j = decide (j % 16 < 8) := (by decide : ∀ j : Fin 32, Nat.testBit 16711935 j.1 = decide (j.1 % 16 < 8)) ⟨j, h⟩
theorem r32_eq (x : Nat) (hx : x < 4294967296) : bsw (swp 16711935 8 (swp 252645135 4 (swp 858993459 2 (swp 1431655765 1 x)))) = rev 32 x := by
  apply Nat.eq_of_testBit_eq
  intro i
  rw [rev_bit]
  by_cases h : i < 32
  · rw [decide_eq_true h, Bool.true_and]
    have hz : ∀ y j, y < 4294967296 → 32 ≤ j → y.testBit j = false := fun y j hy hj => Nat.testBit_lt_two_pow (Nat.lt_of_lt_of_le hy (Nat.pow_le_pow_right (n := 2) (by decide) hj))
    have hb := fun j => hz x j hx
    have z1 := fun j => hz _ j (swp_lt 1431655765 1 x (by decide))
    have z2 := fun j => hz _ j (swp_lt 858993459 2 (swp 1431655765 1 x) (by decide))
    have z3 := fun j => hz _ j (swp_lt 252645135 4 (swp 858993459 2 (swp 1431655765 1 x)) (by decide))
    have z4 := fun j => hz _ j (swp_lt 16711935 8 (swp 252645135 4 (swp 858993459 2 (swp 1431655765 1 x))) (by decide))
    clear hz
    rcases (show i = 0 ∨ i = 1 ∨ i = 2 ∨ i = 3 ∨ i = 4 ∨ i = 5 ∨ i = 6 ∨ i = 7 ∨ i = 8 ∨ i = 9 ∨ i = 10 ∨ i = 11 ∨ i = 12 ∨ i = 13 ∨ i = 14 ∨ i = 15 ∨ i = 16 ∨ i = 17 ∨ i = 18 ∨ i = 19 ∨ i = 20 ∨ i = 21 ∨ i = 22 ∨ i = 23 ∨ i = 24 ∨ i = 25 ∨ i = 26 ∨ i = 27 ∨ i = 28 ∨ i = 29 ∨ i = 30 ∨ i = 31 by omega) with rfl | rfl | rfl | rfl | rfl | rfl | rfl | rfl | rfl | rfl | rfl | rfl | rfl | rfl | rfl | rfl | rfl | rfl | rfl | rfl | rfl | rfl | rfl | rfl | rfl | rfl | rfl | rfl | rfl | rfl | rfl | rfl
    all_goals
      clear h
      simp [bsw_bit, swp_bit, m1, m2, m3, m4, z4, z3, z2, z1, hb, -Nat.testBit_zero]
  · rw [decide_eq_false h, Bool.false_and]
    refine Nat.testBit_lt_two_pow (Nat.lt_of_lt_of_le (m := 2 ^ 32) ?_ (Nat.pow_le_pow_right (by decide) (by omega)))
    unfold bsw
    have z4 := swp_lt 16711935 8 (swp 252645135 4 (swp 858993459 2 (swp 1431655765 1 x))) (by decide)
    exact Nat.or_lt_two_pow (Nat.lt_of_le_of_lt (Nat.div_le_self _ _) z4) (Nat.mod_lt _ (by decide))

end Go.Proofs.YtigdflfhepelaaaGreatDoor
/- Numbers put where their places' bits, turned round, say. -/
namespace Go.Proofs.YtigdflfhepelaaaGreatDoor
open Go.RowKit
set_option linter.unusedVariables false
set_option maxHeartbeats 400000

theorem rev_more (k m i : Nat) (h : i < 2 ^ k) : rev (k + m) i = 2 ^ m * rev k i := by
  induction m with
  | zero => simp
  | succ m ih =>
    rw [← Nat.add_assoc, rev_low _ _ 0 (Nat.lt_of_lt_of_le h (Nat.pow_le_pow_right (by decide) (by omega))), ih, Nat.pow_succ', Nat.mul_assoc]
theorem rev_shift (k i : Nat) (hk : k ≤ 32) (h : i < 2 ^ k) : rev 32 i / 2 ^ (32 - k) = rev k i := by
  have := rev_more k (32 - k) i h
  rw [show k + (32 - k) = 32 by omega] at this
  rw [this, Nat.mul_div_cancel_left _ (Nat.two_pow_pos _)]

/-- Behind the first i rounds. -/
structure Sw (k p i : Nat) (l o : List Nat) : Prop where
  len : o.length = 2 ^ k
  lt : ∀ x ∈ o, x < p
  at_ : ∀ j, j < 2 ^ k → lb o j = if j < i ∨ rev k j < i then lb l (rev k j) else lb l j
theorem Sw.start (k p : Nat) (l : List Nat) (h : l.length = 2 ^ k) (hl : ∀ x ∈ l, x < p) : Sw k p 0 l l :=
  ⟨h, hl, fun j hj => by rw [if_neg (by omega)]⟩
theorem Sw.keep {k p i : Nat} {l o : List Nat} (H : Sw k p i l o) (hi : i < 2 ^ k) (h : rev k i ≤ i) : Sw k p (i + 1) l o := by
  refine ⟨H.len, H.lt, fun j hj => ?_⟩
  rw [H.at_ j hj]
  by_cases e : j = i
  · subst e
    rw [if_pos (show j < j + 1 ∨ _ by omega)]
    by_cases e2 : rev k j < j
    · rw [if_pos (.inr e2)]
    · rw [show rev k j = j by omega]; simp
  · by_cases e2 : rev k j = i
    · have hji : j = rev k i := by rw [← e2, rev_rev k j hj]
      rw [if_pos (.inl (by omega)), if_pos (.inl (by omega))]
    · by_cases c : j < i ∨ rev k j < i
      · rw [if_pos c, if_pos (by omega)]
      · rw [if_neg c, if_neg (by omega)]
theorem Sw.swap {k p i : Nat} {l o : List Nat} (H : Sw k p i l o) (hi : i < 2 ^ k) (h : i < rev k i) : Sw k p (i + 1) l ((o.set i (lb o (rev k i))).set (rev k i) (lb o i)) := by
  have hr := rev_lt k i
  have hrr := rev_rev k i hi
  have hm : ∀ j, j < 2 ^ k → lb o j < p := fun j hj => by
    have hmem : lb o j ∈ o := by unfold lb; rw [List.getElem?_eq_getElem (by rw [H.len]; exact hj)]; exact List.getElem_mem _
    exact H.lt _ hmem
  have e1 := H.at_ i hi
  have e2 := H.at_ (rev k i) hr
  rw [hrr] at e2
  rw [if_neg (by omega)] at e1 e2
  refine ⟨by simp [H.len], set_lt (set_lt H.lt (hm _ hr)) (hm _ hi), fun j hj => ?_⟩
  rw [lb_set _ _ _ _ (by simp [H.len]; exact hr), lb_set _ _ _ _ (by rw [H.len]; exact hi)]
  by_cases c1 : rev k i = j
  · subst c1
    rw [if_pos rfl, hrr, if_pos (show _ ∨ i < i + 1 by omega), e1]
  · rw [if_neg c1]
    by_cases c2 : i = j
    · subst c2; rw [if_pos rfl, if_pos (show i < i + 1 ∨ _ by omega), e2]
    · rw [if_neg c2, H.at_ j hj]
      have c3 : rev k j ≠ i := fun e => c1 (by rw [← e, rev_rev k j hj])
      by_cases c : j < i ∨ rev k j < i
      · rw [if_pos c, if_pos (by omega)]
      · rw [if_neg c, if_neg (by omega)]

end Go.Proofs.YtigdflfhepelaaaGreatDoor
/- The three primes, and what their roots do. -/
namespace Go.Proofs.YtigdflfhepelaaaGreatDoor
open Go.RowKit
set_option linter.unusedVariables false

/-- A power modulo p, by squaring. -/
def pm (p : Nat) : Nat → Nat → Nat → Nat
  | 0, _, _ => 1 % p
  | k + 1, b, e => if e % 2 = 1 then b * pm p k (b * b % p) (e / 2) % p else pm p k (b * b % p) (e / 2)
theorem pow_mod2 (a n p : Nat) : (a % p) ^ n % p = a ^ n % p := by rw [← Nat.pow_mod]
theorem pm_eq (p k b e : Nat) (h : e < 2 ^ k) : pm p k b e = b ^ e % p := by
  induction k generalizing b e with
  | zero => simp at h; subst h; simp [pm]
  | succ k ih =>
    rw [Nat.pow_succ] at h
    have hh : e / 2 < 2 ^ k := by omega
    have e2 : b ^ (2 * (e / 2)) % p = (b * b % p) ^ (e / 2) % p := by rw [Nat.pow_mul, pow_mod2, Nat.pow_two]
    rw [pm, ih _ _ hh]
    rcases (show e % 2 = 0 ∨ e % 2 = 1 by omega) with h0 | h1
    · rw [if_neg (by omega), ← e2]; congr 2; omega
    · rw [if_pos h1, ← e2, ← Nat.mul_mod_mod]
      simp only [Nat.mod_mod]
      rw [Nat.mul_mod_mod, Nat.mul_comm, ← Nat.pow_succ]; congr 2; omega

/-- What the three records keep. -/
structure Fld (f : Fd) : Prop where
  good : Good f
  dv : (f.p - 1) % 2 ^ 20 = 0
  half : f.root ^ ((f.p - 1) / 2) % f.p = f.p - 1
  two : 2 ^ (f.p - 1) % f.p = 1
def F0 : Fd := ⟨998244353, 3, 998244351, 932051910, 0, 232013824⟩
def F1 : Fd := ⟨469762049, 3, 469762047, 460175152, 305718167, 51380224⟩
def F2 : Fd := ⟨167772161, 3, 167772159, 40265974, 115614034, 6553600⟩
theorem F0_fld : Fld F0 := by
  refine ⟨⟨by decide, by decide, by decide, by decide +kernel, by decide +kernel, by decide, by decide, by decide +kernel, by decide⟩, by decide +kernel, ?_, ?_⟩
  · rw [← pm_eq _ 30 _ _ (by decide +kernel)]; decide +kernel
  · rw [← pm_eq _ 30 _ _ (by decide +kernel)]; decide +kernel
theorem F1_fld : Fld F1 := by
  refine ⟨⟨by decide, by decide, by decide, by decide +kernel, by decide +kernel, by decide, by decide, by decide +kernel, by decide⟩, by decide +kernel, ?_, ?_⟩
  · rw [← pm_eq _ 30 _ _ (by decide +kernel)]; decide +kernel
  · rw [← pm_eq _ 30 _ _ (by decide +kernel)]; decide +kernel
theorem F2_fld : Fld F2 := by
  refine ⟨⟨by decide, by decide, by decide, by decide +kernel, by decide +kernel, by decide, by decide, by decide +kernel, by decide⟩, by decide +kernel, ?_, ?_⟩
  · rw [← pm_eq _ 30 _ _ (by decide +kernel)]; decide +kernel
  · rw [← pm_eq _ 30 _ _ (by decide +kernel)]; decide +kernel

theorem eqm_of_mod {p a b : Nat} (h : a % p = b % p) : Eqm (p : Int) (a : Int) (b : Int) := by
  apply Eqm.of_emod
  rw [← Int.natCast_emod, ← Int.natCast_emod, h]
theorem Fld.half' {f : Fd} (F : Fld f) : Eqm (f.p : Int) ((f.root : Int) ^ ((f.p - 1) / 2)) (-1) := by
  have p0 := F.good.p0
  have h : Eqm (f.p : Int) ((f.root ^ ((f.p - 1) / 2) : Nat) : Int) ((f.p - 1 : Nat) : Int) := eqm_of_mod (by rw [F.half, Nat.mod_eq_of_lt (by omega)])
  rw [Int.natCast_pow] at h
  exact h.trans ⟨1, by omega⟩
theorem Fld.even {f : Fd} (F : Fld f) : f.p - 1 = 2 * ((f.p - 1) / 2) := by
  have := F.dv
  simp only [Nat.reducePow] at this
  omega
theorem Fld.full {f : Fd} (F : Fld f) : Eqm (f.p : Int) ((f.root : Int) ^ (f.p - 1)) 1 := by
  rw [F.even, Nat.mul_comm, Int.pow_mul]
  have := F.half'.pow 2
  rwa [show ((-1 : Int)) ^ 2 = 1 by decide] at this
theorem Fld.dvk {f : Fd} (F : Fld f) {k : Nat} (hk : k ≤ 20) : (f.p - 1) / 2 ^ k * 2 ^ k = f.p - 1 := by
  apply Nat.div_mul_cancel
  exact Nat.dvd_trans (Nat.pow_dvd_pow 2 hk) (Nat.dvd_of_mod_eq_zero F.dv)
theorem Fld.rt {f : Fd} (F : Fld f) {k : Nat} (hk : k ≤ 20) : Rt (f.p : Int) ((rt f k : Nat) : Int) k := by
  have hd := F.dvk hk
  refine ⟨?_, fun h0 => ?_⟩
  · rw [Go.Proofs.YtigdflfhepelaaaGreatDoor.rt, Int.natCast_pow, ← Int.pow_mul, hd]; exact F.full
  · rw [Go.Proofs.YtigdflfhepelaaaGreatDoor.rt, Int.natCast_pow, ← Int.pow_mul]
    have : (f.p - 1) / 2 ^ k * 2 ^ (k - 1) = (f.p - 1) / 2 := by
      obtain ⟨j, rfl⟩ : ∃ j, k = j + 1 := ⟨k - 1, by omega⟩
      rw [Nat.add_sub_cancel, ← hd]
      rw [Nat.pow_succ] at hd ⊢
      rw [show (f.p - 1) / (2 ^ j * 2) * (2 ^ j * 2) = (f.p - 1) / (2 ^ j * 2) * 2 ^ j * 2 by rw [Nat.mul_assoc], Nat.mul_div_cancel _ (by decide)]
      rw [show (f.p - 1) / (2 ^ j * 2) * 2 ^ j * 2 = f.p - 1 by rw [Nat.mul_assoc]; exact hd]
    rw [this]; exact F.half'
/-- A power by p - 2 is an inverse. -/
theorem inv_of {f : Fd} (F : Fld f) {x : Nat} (h : Eqm (f.p : Int) ((x : Int) ^ (f.p - 1)) 1) : Eqm (f.p : Int) ((x : Int) * ((x ^ (f.p - 2) : Nat) : Int)) 1 := by
  have p0 := F.good.p0
  rw [Int.natCast_pow, Int.mul_comm, ← Int.pow_succ, show (f.p - 2).succ = f.p - 1 by omega]
  exact h
theorem Fld.rt_full {f : Fd} (F : Fld f) (k : Nat) : Eqm (f.p : Int) (((Go.Proofs.YtigdflfhepelaaaGreatDoor.rt f k : Nat) : Int) ^ (f.p - 1)) 1 := by
  rw [Go.Proofs.YtigdflfhepelaaaGreatDoor.rt, Int.natCast_pow, ← Int.pow_mul, Nat.mul_comm, Int.pow_mul]
  have := F.full.pow ((f.p - 1) / 2 ^ k)
  rwa [Int.one_pow] at this
theorem Fld.wv {f : Fd} (F : Fld f) (k : Nat) : Eqm (f.p : Int) (((Go.Proofs.YtigdflfhepelaaaGreatDoor.rt f k : Nat) : Int) * ((bt f k : Nat) : Int)) 1 := inv_of F (F.rt_full k)
theorem rt_inv {p w v : Int} {k : Nat} (hr : Rt p w k) (h : Eqm p (w * v) 1) : Rt p v k := by
  have key : ∀ n, Eqm p (w ^ n * v ^ n) 1 := fun n => by
    have e : w ^ n * v ^ n = (w * v) ^ n := by
      induction n with
      | zero => simp
      | succ n ih => rw [Int.pow_succ, Int.pow_succ, Int.pow_succ, ← ih]; grind
    rw [e]; have := h.pow n; rwa [Int.one_pow] at this
  refine ⟨?_, fun h0 => ?_⟩
  · have := (hr.1.mul (Eqm.refl p (v ^ 2 ^ k))).symm.trans (key _)
    rwa [Int.one_mul] at this
  · have := ((hr.2 h0).mul (Eqm.refl p (v ^ 2 ^ (k - 1)))).symm.trans (key _)
    have := (Eqm.refl p (-1)).mul this
    rwa [show (-1 : Int) * (-1 * v ^ 2 ^ (k - 1)) = v ^ 2 ^ (k - 1) by grind, Int.mul_one] at this
theorem Fld.bt {f : Fd} (F : Fld f) {k : Nat} (hk : k ≤ 20) : Rt (f.p : Int) ((bt f k : Nat) : Int) k := rt_inv (F.rt hk) (F.wv k)
theorem Fld.share {f : Fd} (F : Fld f) (k : Nat) : Eqm (f.p : Int) (((2 ^ k : Nat) : Int) * ((sh f (2 ^ k) : Nat) : Int)) 1 := by
  have h2 : Eqm (f.p : Int) ((2 : Int) ^ (f.p - 1)) 1 := by
    have p0 := F.good.p0
    have h : Eqm (f.p : Int) ((2 ^ (f.p - 1) : Nat) : Int) ((1 : Nat) : Int) := eqm_of_mod (by rw [F.two, Nat.mod_eq_of_lt p0])
    rwa [Int.natCast_pow] at h
  refine inv_of F ?_
  rw [Int.natCast_pow, ← Int.pow_mul, Nat.mul_comm, Int.pow_mul]
  have := h2.pow k
  rwa [Int.one_pow] at this

/-- What a transform by a root W, each number times S, has in place j. -/
structure TrOut (f : Fd) (k W S : Nat) (l out : List Nat) : Prop where
  len : out.length = 2 ^ k
  lt : ∀ x ∈ out, x < f.p
  at_ : ∀ j, j < 2 ^ k → Eqm (f.p : Int) (seq out j) ((S : Int) * dft (W : Int) (2 ^ k) (seq l) j)
theorem TrOut.of {f : Fd} {k W : Nat} {l o o2 : List Nat} (h1 : DownL f k W l 0 o) (h2 : Sw k f.p (2 ^ k) o o2) : TrOut f k W 1 l o2 := by
  refine ⟨h2.len, h2.lt, fun j hj => ?_⟩
  unfold seq
  rw [h2.at_ j hj, if_pos (.inl hj), Int.natCast_one, Int.one_mul]
  have := h1.down.done (rev k j) (rev_lt k j)
  rw [rev_rev k j hj] at this
  exact this
end Go.Proofs.YtigdflfhepelaaaGreatDoor
/- Lengths in bits, of 64 bits. -/
namespace Go.Proofs.YtigdflfhepelaaaGreatDoor
open Go.RowKit
set_option linter.unusedVariables false
set_option maxHeartbeats 400000

theorem len64_a (w : World) (x : Nat) (h : x < 256) :
    Calls Tryz.prog 98 #[.int .u64 x] w fun e w' => e = .returned (.int .i64 (blen x : Nat)) ∧ w = w' := by
  have h65 : decide ((65536 : Int) ≤ (x : Nat)) = false := by rw [decide_eq_false_iff_not]; omega
  have h256 : decide ((256 : Int) ≤ (x : Nat)) = false := by rw [decide_eq_false_iff_not]; omega
  have h32 : decide ((4294967296 : Int) ≤ (x : Nat)) = false := by rw [decide_eq_false_iff_not]; omega
  have HF : Hid (blen x = blen (x % 256)) := by rw [Hid, Nat.mod_eq_of_lt h]
  have hI := fun w => idx_tab8 (P := Tryz.prog) 9 Tryz.underlying9 .u8 (x % 256) (by omega) w
  have hB := blen_le_of_lt (n := x % 256) (k := 8) (by omega)
  have hv : ((x % 256 : Nat) : Int) = (x : Int) % 256 := by omega
  rw [hv] at hI
  clear hv
  generalize blen (x % 256) = b at *
  go_enter Tryz.func98, Tryz.ntmps98
  generalize hT : (ByteArray.mk _ : ByteArray) = T
  have hT2 : T = tab8 := by rw [← hT]; exact tab8_eq
  rw [← hT2] at hI
  clear hT hT2 h
  go_wp2
  go_ret
  exact ⟨by rw [HF.out]; first | rfl | exact ret_int (by omega), rfl⟩

theorem len64_b (w : World) (x : Nat) (h : 256 ≤ x) (h2 : x < 65536) :
    Calls Tryz.prog 98 #[.int .u64 x] w fun e w' => e = .returned (.int .i64 (blen x : Nat)) ∧ w = w' := by
  have h65 : decide ((65536 : Int) ≤ (x : Nat)) = false := by rw [decide_eq_false_iff_not]; omega
  have h256 : decide ((256 : Int) ≤ (x : Nat)) = true := by rw [decide_eq_true_iff]; omega
  have h32 : decide ((4294967296 : Int) ≤ (x : Nat)) = false := by rw [decide_eq_false_iff_not]; omega
  have HF : Hid (blen x = 8 + blen (x / 256 % 256)) := by
    rw [Hid, Nat.mod_eq_of_lt (by omega)]; exact blen_shift x 8 (by simp only [Nat.reducePow]; omega)
  have hI := fun w => idx_tab8 (P := Tryz.prog) 9 Tryz.underlying9 .u8 (x / 256 % 256) (by omega) w
  have hB := blen_le_of_lt (n := x / 256 % 256) (k := 8) (by omega)
  have hv : ((x / 256 % 256 : Nat) : Int) = (x : Int) / 256 % 256 := by omega
  rw [hv] at hI
  clear hv
  generalize blen (x / 256 % 256) = b at *
  go_enter Tryz.func98, Tryz.ntmps98
  generalize hT : (ByteArray.mk _ : ByteArray) = T
  have hT2 : T = tab8 := by rw [← hT]; exact tab8_eq
  rw [← hT2] at hI
  clear hT hT2 h h2
  go_wp2
  go_ret
  exact ⟨by rw [HF.out]; first | rfl | exact ret_int (by omega), rfl⟩

theorem len64_c (w : World) (x : Nat) (h : 65536 ≤ x) (h2 : x < 16777216) :
    Calls Tryz.prog 98 #[.int .u64 x] w fun e w' => e = .returned (.int .i64 (blen x : Nat)) ∧ w = w' := by
  have h65 : decide ((65536 : Int) ≤ (x : Nat)) = true := by rw [decide_eq_true_iff]; omega
  have h256 : decide ((256 : Int) ≤ (x : Nat) / 65536) = false := by rw [decide_eq_false_iff_not]; omega
  have h32 : decide ((4294967296 : Int) ≤ (x : Nat)) = false := by rw [decide_eq_false_iff_not]; omega
  have HF : Hid (blen x = 16 + blen (x / 65536 % 256)) := by
    rw [Hid, Nat.mod_eq_of_lt (by omega)]; exact blen_shift x 16 (by simp only [Nat.reducePow]; omega)
  have hI := fun w => idx_tab8 (P := Tryz.prog) 9 Tryz.underlying9 .u8 (x / 65536 % 256) (by omega) w
  have hB := blen_le_of_lt (n := x / 65536 % 256) (k := 8) (by omega)
  have hv : ((x / 65536 % 256 : Nat) : Int) = (x : Int) / 65536 % 256 := by omega
  rw [hv] at hI
  clear hv
  generalize blen (x / 65536 % 256) = b at *
  go_enter Tryz.func98, Tryz.ntmps98
  generalize hT : (ByteArray.mk _ : ByteArray) = T
  have hT2 : T = tab8 := by rw [← hT]; exact tab8_eq
  rw [← hT2] at hI
  clear hT hT2 h h2
  go_wp2
  go_ret
  exact ⟨by rw [HF.out]; first | rfl | exact ret_int (by omega), rfl⟩

theorem len64_d (w : World) (x : Nat) (h : 16777216 ≤ x) (h2 : x < 4294967296) :
    Calls Tryz.prog 98 #[.int .u64 x] w fun e w' => e = .returned (.int .i64 (blen x : Nat)) ∧ w = w' := by
  have h65 : decide ((65536 : Int) ≤ (x : Nat)) = true := by rw [decide_eq_true_iff]; omega
  have h256 : decide ((256 : Int) ≤ (x : Nat) / 65536) = true := by rw [decide_eq_true_iff]; omega
  have h32 : decide ((4294967296 : Int) ≤ (x : Nat)) = false := by rw [decide_eq_false_iff_not]; omega
  have HF : Hid (blen x = 24 + blen (x / 65536 / 256 % 256)) := by
    rw [Hid, Nat.div_div_eq_div_mul, Nat.mod_eq_of_lt (by omega)]; exact blen_shift x 24 (by simp only [Nat.reducePow]; omega)
  have hI := fun w => idx_tab8 (P := Tryz.prog) 9 Tryz.underlying9 .u8 (x / 65536 / 256 % 256) (by omega) w
  have hB := blen_le_of_lt (n := x / 65536 / 256 % 256) (k := 8) (by omega)
  have hv : ((x / 65536 / 256 % 256 : Nat) : Int) = (x : Int) / 65536 / 256 % 256 := by omega
  rw [hv] at hI
  clear hv
  generalize blen (x / 65536 / 256 % 256) = b at *
  go_enter Tryz.func98, Tryz.ntmps98
  generalize hT : (ByteArray.mk _ : ByteArray) = T
  have hT2 : T = tab8 := by rw [← hT]; exact tab8_eq
  rw [← hT2] at hI
  clear hT hT2 h h2
  go_wp2
  go_ret
  exact ⟨by rw [HF.out]; first | rfl | exact ret_int (by omega), rfl⟩

theorem len64_calls (w : World) (x : Nat) (h : x < 4294967296) :
    Calls Tryz.prog 98 #[.int .u64 x] w fun e w' => e = .returned (.int .i64 (blen x : Nat)) ∧ w = w' := by
  rcases Nat.lt_or_ge x 256 with h1 | h1
  · exact len64_a w x h1
  · rcases Nat.lt_or_ge x 65536 with h2 | h2
    · exact len64_b w x h1 h2
    · rcases Nat.lt_or_ge x 16777216 with h3 | h3
      · exact len64_c w x h2 h3
      · exact len64_d w x h3 h

theorem len_calls (w : World) (x : Nat) (h : x < 4294967296) :
    Calls Tryz.prog 68 #[.int .u64 x] w fun e w' => e = .returned (.int .i64 (blen x : Nat)) ∧ w = w' := by
  go_enter Tryz.func68, Tryz.ntmps68
  go_wp2_with (fail)
  refine (len64_calls _ x h).mono ?_
  rintro e w' ⟨rfl, rfl⟩
  go_wp2
  go_ret
  exact ⟨rfl, rfl⟩
end Go.Proofs.YtigdflfhepelaaaGreatDoor
/- Sizes, primes, roots. -/
namespace Go.Proofs.YtigdflfhepelaaaGreatDoor
open Go.RowKit
set_option linter.unusedVariables false
set_option maxHeartbeats 400000

theorem blen_pow (k : Nat) : blen (2 ^ k) = k + 1 := blen_eq (Nat.le_refl _) (by rw [Nat.pow_succ]; have := Nat.two_pow_pos k; omega)
end Go.Proofs.YtigdflfhepelaaaGreatDoor
/- The table of the primes; a prime, a root. -/
namespace Go.Proofs.YtigdflfhepelaaaGreatDoor
open Go.RowKit
set_option linter.unusedVariables false
set_option maxHeartbeats 400000

/-- A record of the table lies there. -/
def GB (w : World) (o : Nat) (f : Fd) : Prop := w.cell? ⟨0, o, none⟩ = some (.int .u32 (f.p : Int)) ∧ w.cell? ⟨0, o + 1, none⟩ = some (.int .u32 (f.root : Int)) ∧ w.cell? ⟨0, o + 2, none⟩ = some (.int .u32 (f.neg : Int)) ∧ w.cell? ⟨0, o + 3, none⟩ = some (.int .u32 (f.square : Int)) ∧ w.cell? ⟨0, o + 4, none⟩ = some (.int .u32 (f.ahead : Int))
/-- The table of the three primes. -/
def Gl (w : World) : Prop := 0 < w.heap.size ∧ GB w 0 F0 ∧ GB w 5 F1 ∧ GB w 10 F2
theorem GB.keep {w w' : World} {o : Nat} {f : Fd} (h : GB w o f) (hk : ∀ j, w'.cell? ⟨0, j, none⟩ = w.cell? ⟨0, j, none⟩) : GB w' o f := by
  unfold GB at *; simp only [hk]; exact h
theorem Gl.below {w w' : World} {B : Nat} (h : Gl w) (hB : Below B w w') (h0 : 0 < B) : Gl w' := by
  have hk : ∀ j, w'.cell? ⟨0, j, none⟩ = w.cell? ⟨0, j, none⟩ := fun j => hB.cell (p := ⟨0, j, none⟩) h0
  exact ⟨Nat.lt_of_lt_of_le h.1 hB.size, h.2.1.keep hk, h.2.2.1.keep hk, h.2.2.2.keep hk⟩
theorem Gl.ext {w w' : World} (h : Gl w) (hB : Ext w w') : Gl w' := h.below hB h.1

/-- The record of that number. -/
def fd (i : Nat) : Fd := if i = 0 then F0 else if i = 1 then F1 else F2
theorem fd_fld (i : Nat) : Fld (fd i) := by
  unfold fd; split
  · exact F0_fld
  · split
    · exact F1_fld
    · exact F2_fld
theorem keepO {w x y : World} {B o0 o1 o2 o3 o4 : Nat} {v0 v1 v2 v3 v4 : Value} (h : (B < x.heap.size ∧ x.cell? ⟨B, o0, none⟩ = some v0 ∧ x.cell? ⟨B, o1, none⟩ = some v1 ∧ x.cell? ⟨B, o2, none⟩ = some v2 ∧ x.cell? ⟨B, o3, none⟩ = some v3 ∧ x.cell? ⟨B, o4, none⟩ = some v4) ∧ Ext w x) (hB : Ext x y) : (B < y.heap.size ∧ y.cell? ⟨B, o0, none⟩ = some v0 ∧ y.cell? ⟨B, o1, none⟩ = some v1 ∧ y.cell? ⟨B, o2, none⟩ = some v2 ∧ y.cell? ⟨B, o3, none⟩ = some v3 ∧ y.cell? ⟨B, o4, none⟩ = some v4) ∧ Ext w y := by
  obtain ⟨⟨h0, h1, h2, h3, h4, h5⟩, h6⟩ := h
  have hc := fun o => hB.cell (p := ⟨B, o, none⟩) h0
  exact ⟨⟨Nat.lt_of_lt_of_le h0 hB.size, by rw [hc]; exact h1, by rw [hc]; exact h2, by rw [hc]; exact h3, by rw [hc]; exact h4, by rw [hc]; exact h5⟩, h6.below hB⟩
end Go.Proofs.YtigdflfhepelaaaGreatDoor
/- The transform. -/
namespace Go.Proofs.YtigdflfhepelaaaGreatDoor
open Go.RowKit
set_option linter.unusedVariables false
set_option maxHeartbeats 400000
attribute [local go_sem ↓] app_shut
attribute [local go_sem] run_append_tok

theorem Gl.at_ {w : World} (h : Gl w) {i : Nat} (hi : i < 3) : GB w (i * 5) (fd i) := by
  rcases (show i = 0 ∨ i = 1 ∨ i = 2 by omega) with rfl | rfl | rfl
  · exact h.2.1
  · exact h.2.2.1
  · exact h.2.2.2

theorem Own.shape {w : World} {base : Nat} {v : Value} {o : List Nat} (h : Own w base v o) (h0 : 0 < o.length) : ∃ g c, v = .slice (some ⟨g, 0, none⟩) o.length c := by
  rcases h.2 with ⟨_, h1⟩ | ⟨g, cap, cur, rfl, _⟩
  · omega
  · exact ⟨g, cap, rfl⟩

theorem down_n (w : World) (f : Fd) (hf : Good f) (k W n : Nat) (l pw : List Nat) (g q c base : Nat) (hn : 2 ^ k = n) (hk : k ≤ 20) (hr : Rt f.p W k) (hp : Pw f k W pw)
    (hl : l.length = 2 ^ k) (hlt : ∀ x ∈ l, x < f.p) (hown : Own w base (.slice (some ⟨g, 0, none⟩) n c) l) (hq : Rd w q pw) (hqg : q ≠ g) :
    Calls Tryz.prog 133 #[f.V, .slice (some ⟨g, 0, none⟩) n c, .slice (some ⟨q, 0, none⟩) pw.length pw.length] w fun e w' => e = .returned (.tuple #[]) ∧ (∃ o, DownL f k W l 0 o ∧ Own w' base (.slice (some ⟨g, 0, none⟩) n c) o) ∧ But g w w' := by
  have e : n = l.length := by rw [hl, hn]
  subst e
  exact (down_calls w f hf k W l pw g q c base hk hr hp hl hlt hown hq hqg).mono fun e w' ⟨h1, ⟨o, h2, h3⟩, h4⟩ => ⟨h1, ⟨o, h2, by rw [show o.length = l.length by rw [h2.len, hl]] at h3; exact h3⟩, h4⟩
theorem up_n (w : World) (f : Fd) (hf : Good f) (k W n : Nat) (l pw : List Nat) (g q c base : Nat) (hn : 2 ^ k = n) (hk : k ≤ 20) (hr : Rt f.p W k) (hp : Pw f k W pw)
    (hl : l.length = 2 ^ k) (hlt : ∀ x ∈ l, x < f.p) (hown : Own w base (.slice (some ⟨g, 0, none⟩) n c) l) (hq : Rd w q pw) (hqg : q ≠ g) :
    Calls Tryz.prog 135 #[f.V, .slice (some ⟨g, 0, none⟩) n c, .slice (some ⟨q, 0, none⟩) pw.length pw.length] w fun e w' => e = .returned (.tuple #[]) ∧ (∃ o, UpL f k W l k o ∧ Own w' base (.slice (some ⟨g, 0, none⟩) n c) o) ∧ But g w w' := by
  have e : n = l.length := by rw [hl, hn]
  subst e
  exact (up_calls w f hf k W l pw g q c base hk hr hp hl hlt hown hq hqg).mono fun e w' ⟨h1, ⟨o, h2, h3⟩, h4⟩ => ⟨h1, ⟨o, h2, by rw [show o.length = l.length by rw [h2.len, hl]] at h3; exact h3⟩, h4⟩
end Go.Proofs.YtigdflfhepelaaaGreatDoor
/- The transform, back. -/
namespace Go.Proofs.YtigdflfhepelaaaGreatDoor
open Go.RowKit
set_option linter.unusedVariables false
set_option maxHeartbeats 400000
attribute [local go_sem ↓] app_shut
attribute [local go_sem] run_append_tok

/-- Behind m rounds each of these numbers is times S. -/
structure Bk (f : Fd) (n S m : Nat) (l o : List Nat) : Prop where
  len : o.length = n
  lt : ∀ x ∈ o, x < f.p
  at_ : ∀ i, lb o i = if i < m then mm f (lb l i) (mont f S) else lb l i
theorem Bk.start {f : Fd} {n S : Nat} {l : List Nat} (h : l.length = n) (hl : ∀ x ∈ l, x < f.p) : Bk f n S 0 l l := ⟨h, hl, fun i => by rw [if_neg (by omega)]⟩
theorem Bk.step {f : Fd} {n S m : Nat} {l o : List Nat} (H : Bk f n S m l o) (hf : Good f) (hm : m < n) : Bk f n S (m + 1) l (o.set m (mm f (lb o m) (mont f S))) := by
  refine ⟨by simp [H.len], set_lt H.lt (mm_lt f hf _ _), fun i => ?_⟩
  have e0 : lb o m = lb l m := by rw [H.at_ m, if_neg (Nat.lt_irrefl m)]
  rw [lb_set _ _ _ _ (by rw [H.len]; exact hm), e0]
  by_cases e : m = i
  · subst e; rw [if_pos rfl, if_pos (by omega)]
  · rw [if_neg e, H.at_ i]
    by_cases c : i < m
    · rw [if_pos c, if_pos (by omega)]
    · rw [if_neg c, if_neg (by omega)]
theorem TrOut.times {f : Fd} {k W S : Nat} {l o6 o : List Nat} (h : TrOut f k W 1 l o6) (hf : Good f) (H : Bk f (2 ^ k) S (2 ^ k) o6 o) : TrOut f k W S l o := by
  refine ⟨H.len, H.lt, fun j hj => ?_⟩
  unfold seq
  rw [H.at_ j, if_pos hj]
  refine (mm_mont_eqm f hf _ _).trans ?_
  have := (h.at_ j hj).mul (Eqm.refl (f.p : Int) (S : Int))
  rw [Int.natCast_one, Int.one_mul, Int.mul_comm (dft _ _ _ _)] at this
  exact this

end Go.Proofs.YtigdflfhepelaaaGreatDoor
/- Where there is no transform. -/
namespace Go.Proofs.YtigdflfhepelaaaGreatDoor
open Go.RowKit
set_option linter.unusedVariables false
set_option maxHeartbeats 400000

theorem U.shape {w : World} {v : Value} {xs : List Nat} (h : U w v xs) : ∃ A c, v = .slice A xs.length c ∧ xs.length ≤ c := by
  obtain ⟨A, c, rfl, hc, _⟩ := h; exact ⟨A, c, rfl, hc.1⟩
end Go.Proofs.YtigdflfhepelaaaGreatDoor
/- Sums of products of limbs; rows of three limbs each. -/
namespace Go.Proofs.YtigdflfhepelaaaGreatDoor
open Go.RowKit
set_option linter.unusedVariables false

/-- The sum of a[i'] b[m - i'] over i' below i. -/
def cv (a b : List Nat) : Nat → Nat → Nat
  | 0, _ => 0
  | i + 1, m => cv a b i m + if i ≤ m then lb a i * lb b (m - i) else 0
/-- And those of row i up to j. -/
def cvp (a b : List Nat) (i j m : Nat) : Nat := cv a b i m + if i ≤ m ∧ m - i < j then lb a i * lb b (m - i) else 0
theorem cvp_zero (a b : List Nat) (i m : Nat) : cvp a b i 0 m = cv a b i m := by
  unfold cvp; rw [if_neg (by omega)]; rfl
theorem cvp_full (a b : List Nat) (i j m : Nat) (h : b.length ≤ j) : cvp a b i j m = cv a b (i + 1) m := by
  unfold cvp; rw [cv]
  by_cases h1 : i ≤ m
  · rw [if_pos h1]
    by_cases h2 : m - i < j
    · rw [if_pos ⟨h1, h2⟩]
    · rw [if_neg (by omega), lb_out (o := b) (by omega), Nat.mul_zero]
  · rw [if_neg h1, if_neg (by omega)]
theorem cvp_succ (a b : List Nat) (i j m : Nat) : cvp a b i (j + 1) m = cvp a b i j m + if m = i + j then lb a i * lb b j else 0 := by
  unfold cvp
  by_cases h : m = i + j
  · subst h
    rw [if_pos (by omega), if_neg (by omega), if_pos rfl, Nat.add_sub_cancel_left]; rfl
  · rw [if_neg h]
    by_cases h2 : i ≤ m ∧ m - i < j
    · rw [if_pos h2, if_pos (by omega)]; rfl
    · rw [if_neg h2, if_neg (by omega)]
theorem sq_lt {x y : Nat} (hx : x < 4294967296) (hy : y < 4294967296) : x * y ≤ 18446744065119617025 := Nat.mul_le_mul (show x ≤ 4294967295 by omega) (show y ≤ 4294967295 by omega)
theorem cv_le (a b : List Nat) (ha : ∀ x ∈ a, x < 4294967296) (hb : ∀ x ∈ b, x < 4294967296) (i m : Nat) : cv a b i m ≤ i * 18446744065119617025 := by
  induction i with
  | zero => simp [cv]
  | succ i ih =>
    rw [cv]
    have : (if i ≤ m then lb a i * lb b (m - i) else 0) ≤ 18446744065119617025 := by
      split
      · exact sq_lt (lb_lt ha _) (lb_lt hb _)
      · omega
    rw [Nat.add_mul]; omega
/-- All sums. -/
def conv (a b : List Nat) : List Nat := (List.range (a.length + b.length - 1)).map fun m => cv a b a.length m
theorem conv_len (a b : List Nat) : (conv a b).length = a.length + b.length - 1 := by simp [conv]
theorem lb_map (n : Nat) (f : Nat → Nat) (m : Nat) (h : m < n) : lb ((List.range n).map f) m = f m := by simp [lb, h]
theorem lb_conv (a b : List Nat) (m : Nat) (h : m < a.length + b.length - 1) : lb (conv a b) m = cv a b a.length m := lb_map _ _ _ h

/-- Three limbs of each number. -/
def fl : List Nat → List Nat
  | [] => []
  | c :: cs => c % 4294967296 :: c / 4294967296 % 4294967296 :: c / 18446744073709551616 % 4294967296 :: fl cs
theorem fl_len (cs : List Nat) : (fl cs).length = cs.length * 3 := by
  induction cs with
  | nil => rfl
  | cons c cs ih => simp only [fl, List.length_cons, ih]; omega
theorem fl_lt (cs : List Nat) : ∀ x ∈ fl cs, x < 4294967296 := by
  induction cs with
  | nil => simp [fl]
  | cons c cs ih =>
    intro x hx
    simp only [fl, List.mem_cons] at hx
    rcases hx with rfl | rfl | rfl | hx
    · omega
    · omega
    · omega
    · exact ih x hx
theorem lb_cons_succ (x : Nat) (xs : List Nat) (j : Nat) : lb (x :: xs) (j + 1) = lb xs j := by simp [lb]
theorem lb_cons_zero (x : Nat) (xs : List Nat) : lb (x :: xs) 0 = x := by simp [lb]
theorem lb_fl (cs : List Nat) (m : Nat) (h : m < cs.length) : lb (fl cs) (m * 3) = lb cs m % 4294967296 ∧ lb (fl cs) (m * 3 + 1) = lb cs m / 4294967296 % 4294967296 ∧ lb (fl cs) (m * 3 + 2) = lb cs m / 18446744073709551616 % 4294967296 := by
  induction cs generalizing m with
  | nil => simp at h
  | cons c cs ih =>
    rcases m with _ | m
    · simp only [fl, Nat.zero_mul, Nat.zero_add]
      exact ⟨rfl, rfl, rfl⟩
    · have := ih m (by simpa using h)
      rw [show (m + 1) * 3 = m * 3 + 1 + 1 + 1 by omega]
      simp only [fl, lb_cons_succ]
      exact this
theorem fl_set (cs : List Nat) (m c : Nat) (h : m < cs.length) : fl (cs.set m c) = (((fl cs).set (m * 3) (c % 4294967296)).set (m * 3 + 1) (c / 4294967296 % 4294967296)).set (m * 3 + 2) (c / 18446744073709551616 % 4294967296) := by
  induction cs generalizing m with
  | nil => simp at h
  | cons d cs ih =>
    rcases m with _ | m
    · simp [fl]
    · have := ih m (by simpa using h)
      rw [List.set_cons_succ, fl, this]
      rw [show (m + 1) * 3 = m * 3 + 1 + 1 + 1 by omega, show m * 3 + 1 + 1 + 1 + 1 = (m * 3 + 1) + 1 + 1 + 1 by omega, show m * 3 + 1 + 1 + 1 + 2 = (m * 3 + 2) + 1 + 1 + 1 by omega]
      simp only [fl, List.set_cons_succ]
theorem fl_zeros (n : Nat) : fl (List.replicate n 0) = List.replicate (n * 3) 0 := by
  induction n with
  | zero => rfl
  | succ n ih => rw [List.replicate_succ, fl, ih, show (n + 1) * 3 = n * 3 + 1 + 1 + 1 by omega, List.replicate_succ, List.replicate_succ, List.replicate_succ]

/-- v is a row of the call's own, of three limbs each: the numbers cs. -/
def Own3 (w : World) (base : Nat) (v : Value) (cs : List Nat) : Prop := w.ownsRow base 135 3 v cs.length (L32 (fl cs))
theorem Own3.block {w : World} {base g n c : Nat} {o : List Nat} (h : Own3 w base (.slice (some ⟨g, 0, none⟩) n c) o) : base ≤ g ∧ g < w.heap.size := by
  have h0 : w.ownsRow base 135 3 (.slice (some ⟨g, 0, none⟩) n c) o.length (L32 (fl o)) := h
  exact h0.lt g rfl
theorem Own3.caps {w : World} {base g n c : Nat} {o : List Nat} (h : Own3 w base (.slice (some ⟨g, 0, none⟩) n c) o) : n = o.length ∧ n ≤ c ∧ c ≤ maxLen := by
  rcases h.2 with ⟨h1, _⟩ | ⟨g', cap, cur, h1, hg, hh, h2, h3, h4, h5⟩
  · cases h1
  · injection h1 with e1 e2 e3
    subst e2 e3
    exact ⟨rfl, h2, h3⟩
theorem Own3.below {w w' : World} {base B : Nat} {v : Value} {o : List Nat} (h : Own3 w base v o) (hB : Below B w w') (hv : ∀ g, v.ownBlock = some g → g < B) : Own3 w' base v o := by
  refine ⟨h.1, ?_⟩
  rcases h.2 with hn | ⟨g, cap, cur, rfl, hb, hgg, rest⟩
  · exact .inl hn
  · refine .inr ⟨g, cap, cur, rfl, hb, ?_, rest⟩
    rw [hB.block g (hv g rfl)]
    exact hgg
theorem Own3.ext {w w' : World} {base g n c : Nat} {o : List Nat} (h : Own3 w base (.slice (some ⟨g, 0, none⟩) n c) o) (hB : Ext w w') : Own3 w' base (.slice (some ⟨g, 0, none⟩) n c) o :=
  h.below hB (fun g' hg => by injection hg with hg; subst hg; exact h.block.2)
theorem Own3.cell {w : World} {base g n c : Nat} {o : List Nat} (h : Own3 w base (.slice (some ⟨g, 0, none⟩) n c) o) {j : Nat} (hj : j < o.length * 3) : w.cell? ⟨g, j, none⟩ = some (.int .u32 (lb (fl o) j : Nat)) := by
  obtain ⟨e, _, _⟩ := h.caps
  subst e
  have h0 : w.ownsRow base 135 3 (.slice (some ⟨g, 0, none⟩) o.length c) o.length (L32 (fl o)) := h
  rw [World.ownsRow.cellAt h0 j hj]; exact L32_get _ (by rw [fl_len]; exact hj)
theorem Own3.frozen {w : World} {base g n c : Nat} {o : List Nat} (h : Own3 w base (.slice (some ⟨g, 0, none⟩) n c) o) (j : Nat) : w.frozen? ⟨g, j, none⟩ = false := by
  obtain ⟨e, _, _⟩ := h.caps
  subst e
  have h0 : w.ownsRow base 135 3 (.slice (some ⟨g, 0, none⟩) o.length c) o.length (L32 (fl o)) := h
  exact World.ownsRow.frozenAt h0 j
theorem Own3.set_ {w : World} {base g n c : Nat} {o : List Nat} (h : Own3 w base (.slice (some ⟨g, 0, none⟩) n c) o) (m x : Nat) (hm : m < o.length) :
    Own3 (((w.setCell ⟨g, m * 3, none⟩ (.int .u32 (x % 4294967296 : Nat))).setCell ⟨g, m * 3 + 1, none⟩ (.int .u32 (x / 4294967296 % 4294967296 : Nat))).setCell ⟨g, m * 3 + 2, none⟩ (.int .u32 (x / 18446744073709551616 % 4294967296 : Nat))) base (.slice (some ⟨g, 0, none⟩) n c) (o.set m x) := by
  obtain ⟨e, _, _⟩ := h.caps
  subst e
  have h0 : w.ownsRow base 135 3 (.slice (some ⟨g, 0, none⟩) o.length c) o.length (L32 (fl o)) := h
  have h1 := (World.ownsRow.stored h0 (m * 3) (.int .u32 (x % 4294967296 : Nat))).1
  have h2 := (World.ownsRow.stored h1 (m * 3 + 1) (.int .u32 (x / 4294967296 % 4294967296 : Nat))).1
  have h3 := (World.ownsRow.stored h2 (m * 3 + 2) (.int .u32 (x / 18446744073709551616 % 4294967296 : Nat))).1
  unfold Own3
  rw [List.length_set, fl_set _ _ _ hm, L32_set, L32_set, L32_set]
  exact h3
theorem info3 : (Tryz.prog.info? 135).map (fun i => (i.zero, i.size, i.bytes)) = some (some (.agg #[.int .u32 0, .int .u32 0, .int .u32 0]), 3, 12) := by kernel_rfl
theorem madeCells3 (n : Nat) : (madeCells (Value.agg #[.int .u32 0, .int .u32 0, .int .u32 0]).cells (n * 3)).toList = L32 (fl (List.replicate n 0)) := by
  rw [fl_zeros, L32_zeros]
  apply List.ext_getElem?
  intro j
  by_cases hj : j < n * 3
  · have h3 : j % 3 = 0 ∨ j % 3 = 1 ∨ j % 3 = 2 := by omega
    rcases h3 with h | h | h <;> simp [madeCells, Value.cells, hj, h]
  · simp [madeCells, hj]
end Go.Proofs.YtigdflfhepelaaaGreatDoor
/- Sums of products, one by one. -/
namespace Go.Proofs.YtigdflfhepelaaaGreatDoor
open Go.RowKit
set_option linter.unusedVariables false
set_option maxHeartbeats 400000

theorem run_add (x y : Nat) (w : World) :
    (callFunc 110 #[.int .u64 (x : Nat), .int .u64 (y : Nat), .int .u64 0]).run Tryz.prog w = .ok (.value (.tuple #[.int .u64 ((x + y) % 18446744073709551616 : Nat), .int .u64 ((x + y) / 18446744073709551616 : Nat)])) w := by
  rw [run_callFunc_extern Tryz.func110 (by kernel_rfl) (by kernel_rfl) (by kernel_rfl) (e := add64Entry) (by kernel_rfl), run_add64 x y 0 (by omega) (by omega) (by omega) (by omega)]
  simp only [Result.andThen]
  congr 5 <;> omega

/-- One product more, in three limbs. -/
theorem limbs3 (s t : Nat) (hs : s < 79228162514264337593543950336) (ht : t < 18446744073709551616) (hst : s + t < 79228162514264337593543950336) :
    (s / 4294967296 % 4294967296 * 4294967296 + s % 4294967296 + t) % 18446744073709551616 % 4294967296 = (s + t) % 4294967296 ∧
    (s / 4294967296 % 4294967296 * 4294967296 + s % 4294967296 + t) % 18446744073709551616 / 4294967296 = (s + t) / 4294967296 % 4294967296 ∧
    s / 18446744073709551616 % 4294967296 + (s / 4294967296 % 4294967296 * 4294967296 + s % 4294967296 + t) / 18446744073709551616 = (s + t) / 18446744073709551616 % 4294967296 := by
  refine ⟨?_, ?_, ?_⟩ <;> omega

set_option maxRecDepth 100000 in
set_option maxHeartbeats 4000000 in
theorem direct_calls (w : World) (v u : Value) (a b : List Nat) (h : U w v a) (g : U w u b) (ha0 : 0 < a.length) (hb0 : 0 < b.length) (hal : a.length ≤ 1000000) (hbl : b.length ≤ 1000000) :
    Calls Tryz.prog 111 #[v, u] w fun e w' => (∃ gg, e = .returned (.slice (some ⟨gg, 0, none⟩) (conv a b).length (conv a b).length) ∧ Own3 w' w.heap.size (.slice (some ⟨gg, 0, none⟩) (conv a b).length (conv a b).length) (conv a b)) ∧ Ext w w' := by
  obtain ⟨A, c, rfl, ⟨hc, hm⟩, hx, hr⟩ := id h
  obtain ⟨A2, c2, rfl, ⟨hc2, hm2⟩, hx2, hr2⟩ := id g
  obtain ⟨ad, rfl, hb, hcell⟩ := hr ha0
  obtain ⟨ad2, rfl, hb2, hcell2⟩ := hr2 hb0
  clear hr hr2
  have hcl := conv_len a b
  have HCV := Lib.hid (fun m => lb_conv a b m)
  obtain ⟨i0, hi, hz0, hz1, hz2⟩ := info_parts info3
  obtain ⟨na, hna⟩ : ∃ na, a.length = na := ⟨_, rfl⟩
  obtain ⟨nb, hnb⟩ : ∃ nb, b.length = nb := ⟨_, rfl⟩
  rw [hna, hnb] at hcl
  rw [hna] at hc hm hcell ha0 hal ⊢
  rw [hnb] at hc2 hm2 hcell2 hb0 hbl ⊢
  obtain ⟨n, hn⟩ : ∃ n, na + nb - 1 = n := ⟨_, rfl⟩
  have hnn : (na : Int) + (nb : Int) - 1 = (n : Int) := by omega
  rw [hn] at hcl
  have HCL := Lib.hid hcl
  have HNA := Lib.hid hna
  have HNB := Lib.hid hnb
  have HN := Lib.hid hn
  clear hcl hna hnb h g
  go_enter Tryz.func111, Tryz.ntmps111
  go_wp2_with (at_make; refine wpList_make_full _ rfl _ _ 124 rfl (w.heap.size) 135 i0 (.agg #[.int .u32 0, .int .u32 0, .int .u32 0]) 3 Tryz.underlying124 hi hz0 hz1 _ _ _ _ n rfl rfl (by omega) (by omega) (by rw [hz2]; omega) (by unfold maxLen; omega) (Nat.le_refl _) ?_; intro w1 hown hgrow)
  have ho0 : Own3 w1 w.heap.size (.slice (some ⟨w.heap.size, 0, none⟩) n n) (List.replicate n 0) := by
    have := hown
    rw [madeCells3] at this
    unfold Own3
    rw [List.length_replicate]
    exact this
  have hB0 : Ext w w1 := (Ext.refl w).grown hgrow (Nat.le_refl _) (fun _ h => by cases h)
  clear hown hgrow hi hz0 hz1 hz2 i0
  obtain ⟨B, hB⟩ : ∃ B, w.heap.size = B := ⟨_, rfl⟩
  have HBB := Lib.hid hB
  rw [hB] at hb hb2 ho0 ⊢
  clear hB
  go_loopw [23] (fun t wr => ∃ (i : Nat) (o : List Nat), i ≤ na ∧ t = .int .i64 (i : Nat) ∧ Hid (o.length = n ∧ ∀ m, m < n → lb o m = cv a b i m) ∧ Own3 wr B (.slice (some ⟨B, 0, none⟩) n n) o ∧ Ext w wr) (fun t _ => na - (intOf t).toNat)
  case atStart => exact ⟨0, _, Nat.zero_le _, rfl, ⟨by simp, fun m hm => by rw [lb_zeros]; rfl⟩, ho0, hB0⟩
  case round =>
    clear ho0 hB0
    obtain ⟨i, o, hi, rfl, HO, hown, hE⟩ := hrel
    by_cases hlt : i < na
    · have hc1 := (hE.cell (p := ad.add i) (by rw [addr_add_block]; have := HBB.out; omega)).trans (hcell i hlt)
      have hx1 := lb_lt hx i
      obtain ⟨x, hxx⟩ : ∃ x, lb a i = x := ⟨_, rfl⟩
      rw [hxx] at hc1 hx1
      have HXX := Lib.hid hxx
      clear hxx
      go_wp2
      go_loopw [30] (fun t wr => ∃ (j : Nat) (o : List Nat), j ≤ nb ∧ t = .int .i64 (j : Nat) ∧ Hid (o.length = n ∧ ∀ m, m < n → lb o m = cvp a b i j m) ∧ Own3 wr B (.slice (some ⟨B, 0, none⟩) n n) o ∧ Ext w wr) (fun t _ => nb - (intOf t).toNat)
      case atStart => exact ⟨0, o, Nat.zero_le _, rfl, ⟨HO.out.1, fun m hm => by rw [HO.out.2 m hm, cvp_zero]⟩, hown, hE⟩
      case round =>
        clear hown hE HO hc1
        obtain ⟨j, o, hj, rfl, HO, hown, hE⟩ := hrel
        by_cases hjt : j < nb
        · have hc2 := (hE.cell (p := ad2.add j) (by rw [addr_add_block]; have := HBB.out; omega)).trans (hcell2 j hjt)
          have hy1 := lb_lt hx2 j
          obtain ⟨y, hyy⟩ : ∃ y, lb b j = y := ⟨_, rfl⟩
          rw [hyy] at hc2 hy1
          have HYY := Lib.hid hyy
          clear hyy
          have hij : i + j < n := by have := HN.out; omega
          obtain ⟨t, htt⟩ : ∃ t, x * y = t := ⟨_, rfl⟩
          have ht : t < 18446744073709551616 := by rw [← htt]; have := sq_lt hx1 hy1; omega
          have htI : (x : Int) * (y : Int) = (t : Int) := by rw [← htt, Int.natCast_mul]
          have hl := lb_fl o (i + j) (by rw [HO.out.1]; exact hij)
          obtain ⟨S, hS⟩ : ∃ S, lb o (i + j) = S := ⟨_, rfl⟩
          rw [hS] at hl
          have hS1 : S + t < 79228162514264337593543950336 := by
            have h1 := cv_le a b hx hx2 i (i + j)
            have h2 := HO.out.2 (i + j) hij
            rw [hS] at h2
            unfold cvp at h2
            have h3 : (if i ≤ i + j ∧ i + j - i < j then lb a i * lb b (i + j - i) else 0) ≤ 18446744065119617025 := by
              split
              · exact sq_lt (lb_lt hx _) (lb_lt hx2 _)
              · omega
            have h4 := sq_lt hx1 hy1
            omega
          have HTT := Lib.hid htt
          have k0 := hown.cell (j := (i + j) * 3) (by rw [HO.out.1]; omega)
          have k1 := hown.cell (j := (i + j) * 3 + 1) (by rw [HO.out.1]; omega)
          have k2 := hown.cell (j := (i + j) * 3 + 2) (by rw [HO.out.1]; omega)
          have f0 := hown.frozen ((i + j) * 3)
          have f1 := hown.frozen ((i + j) * 3 + 1)
          have f2 := hown.frozen ((i + j) * 3 + 2)
          rw [hl.1] at k0
          rw [hl.2.1] at k1
          rw [hl.2.2] at k2
          have hnew := hown.set_ (i + j) (S + t) (by rw [HO.out.1]; exact hij)
          have H3 := Lib.hid (limbs3 S t (by omega) ht hS1)
          obtain ⟨s0, hs0⟩ : ∃ s0, S % 4294967296 = s0 := ⟨_, rfl⟩
          obtain ⟨s1, hs1⟩ : ∃ s1, S / 4294967296 % 4294967296 = s1 := ⟨_, rfl⟩
          obtain ⟨s2, hs2⟩ : ∃ s2, S / 18446744073709551616 % 4294967296 = s2 := ⟨_, rfl⟩
          rw [hs0] at k0 H3
          rw [hs1] at k1 H3
          rw [hs2] at k2 H3
          have b0 : s0 < 4294967296 := by rw [← hs0]; exact Nat.mod_lt _ (by decide)
          have b1 : s1 < 4294967296 := by rw [← hs1]; exact Nat.mod_lt _ (by decide)
          have b2 : s2 < 4294967296 := by rw [← hs2]; exact Nat.mod_lt _ (by decide)
          obtain ⟨m, hm⟩ : ∃ m, s1 * 4294967296 = m := ⟨_, rfl⟩
          have hmI : (s1 : Int) * 4294967296 = (m : Int) := by omega
          have hmw : IntKind.u64.wrap ((s1 : Int) * 4294967296) = (m : Int) := by rw [IntKind.wrap_u64]; omega
          obtain ⟨lo, hlo⟩ : ∃ lo, m + s0 = lo := ⟨_, rfl⟩
          have hor : bits .or .u64 (m : Int) (s0 : Int) = (lo : Int) := by
            rw [u64_or_nat _ _ (by omega) (by omega), nat_join 32 m s0 (by rw [← hm]; exact Nat.mul_mod_left _ _) b0, hlo]
          have hlow : IntKind.u64.wrap (lo : Int) = (lo : Int) := by rw [IntKind.wrap_u64]; omega
          have hadd := fun w => run_add lo t w
          rw [hm, hlo] at H3
          obtain ⟨l1, hl1⟩ : ∃ l1, (lo + t) % 18446744073709551616 = l1 := ⟨_, rfl⟩
          obtain ⟨c1, hc1⟩ : ∃ c1, (lo + t) / 18446744073709551616 = c1 := ⟨_, rfl⟩
          rw [hl1, hc1] at hadd H3
          have bl : l1 < 18446744073709551616 := by rw [← hl1]; exact Nat.mod_lt _ (by decide)
          have bc : c1 ≤ 1 := by omega
          clear hl hs0 hs1 hs2 hm hlo hl1 hc1 htt
          obtain ⟨n0, hn0⟩ : ∃ n0, (S + t) % 4294967296 = n0 := ⟨_, rfl⟩
          obtain ⟨n1, hn1⟩ : ∃ n1, (S + t) / 4294967296 % 4294967296 = n1 := ⟨_, rfl⟩
          obtain ⟨n2, hn2⟩ : ∃ n2, (S + t) / 18446744073709551616 % 4294967296 = n2 := ⟨_, rfl⟩
          rw [hn0, hn1, hn2] at hnew H3
          have d0 : n0 < 4294967296 := by rw [← hn0]; exact Nat.mod_lt _ (by decide)
          have d1 : n1 < 4294967296 := by rw [← hn1]; exact Nat.mod_lt _ (by decide)
          have d2 : n2 < 4294967296 := by rw [← hn2]; exact Nat.mod_lt _ (by decide)
          obtain ⟨e0, e1, e2⟩ := H3.out
          have i0 : (l1 : Int) % 4294967296 = (n0 : Int) := by omega
          have i0w : IntKind.u32.wrap (l1 : Int) = (n0 : Int) := by rw [IntKind.wrap_u32]; omega
          have i1 : (l1 : Int) / 4294967296 = (n1 : Int) := by omega
          have i1w : IntKind.u32.wrap (n1 : Int) = (n1 : Int) := by rw [IntKind.wrap_u32]; omega
          have i1m : (n1 : Int) % 4294967296 = (n1 : Int) := by omega
          have i2 : (s2 : Int) + (c1 : Int) = (n2 : Int) := by omega
          have i2w : IntKind.u32.wrap ((s2 : Int) + (c1 : Int)) = (n2 : Int) := by rw [IntKind.wrap_u32]; omega
          have i2n : IntKind.u32.wrap (n2 : Int) = (n2 : Int) := by rw [IntKind.wrap_u32]; omega
          have i2m : (n2 : Int) % 4294967296 = (n2 : Int) := by omega
          have icw : IntKind.u32.wrap (c1 : Int) = (c1 : Int) := by rw [IntKind.wrap_u32]; omega
          have icm : (c1 : Int) % 4294967296 = (c1 : Int) := by omega
          clear H3 e0 e1 e2 hn0 hn1 hn2
          have HO2 : Hid ((o.set (i + j) (S + t)).length = n ∧ ∀ m, m < n → lb (o.set (i + j) (S + t)) m = cvp a b i (j + 1) m) := by
            refine ⟨by rw [List.length_set]; exact HO.out.1, fun m hm => ?_⟩
            rw [lb_set _ _ _ _ (by rw [HO.out.1]; exact hij), cvp_succ, ← HO.out.2 m hm]
            by_cases e : i + j = m
            · rw [if_pos e, if_pos e.symm, ← e, hS, HXX.out, HYY.out, HTT.out]
            · rw [if_neg e, if_neg (Ne.symm e)]; rfl
          have HNEW := Lib.hid hnew
          have hE2 := ((hE.setCell (p := ⟨B, (i + j) * 3, none⟩) (by show w.heap.size ≤ B; have := HBB.out; omega) (.int .u32 (n0 : Nat))).setCell (p := ⟨B, (i + j) * 3 + 1, none⟩) (by show w.heap.size ≤ B; have := HBB.out; omega) (.int .u32 (n1 : Nat))).setCell (p := ⟨B, (i + j) * 3 + 2, none⟩) (by show w.heap.size ≤ B; have := HBB.out; omega) (.int .u32 (n2 : Nat))
          clear hS hnew
          go_wp2
          go_region
          go_wp2
          go_region
          go_wp2
          go_roundw
          case rel => exact ⟨j + 1, _, by omega, by go_num, HO2, HNEW.out, hE2.drew.drew⟩
          case measure => simp [intOf]; omega
        · obtain rfl : j = nb := by omega
          have HO3 : Hid (o.length = n ∧ ∀ m, m < n → lb o m = cv a b (i + 1) m) := ⟨HO.out.1, fun m hm => by rw [HO.out.2 m hm, cvp_full _ _ _ _ _ (by rw [HNB.out]; exact Nat.le_refl _)]⟩
          clear HO
          go_wp2
          go_roundw
          case rel => exact ⟨i + 1, o, by omega, by go_num, HO3, hown, hE⟩
          case measure => simp [intOf]; omega
    · obtain rfl : i = na := by omega
      have hcv : o = conv a b := by
        refine ext_lb (by rw [HO.out.1, HCL.out]) fun m hm => ?_
        rw [HO.out.1] at hm
        rw [HO.out.2 m hm, HCV.out m (by rw [HNA.out, HNB.out, HN.out]; exact hm), HNA.out]
      have HF : Hid (∃ gg, Ending.returned (.slice (some ⟨B, 0, none⟩) n n) = .returned (.slice (some ⟨gg, 0, none⟩) (conv a b).length (conv a b).length) ∧ Own3 wr w.heap.size (.slice (some ⟨gg, 0, none⟩) (conv a b).length (conv a b).length) (conv a b)) := by
        refine ⟨B, by rw [HCL.out], ?_⟩
        rw [hcv] at hown
        rw [HCL.out, HBB.out]; exact hown
      clear HO hown hcv
      go_wp2
      go_ret
      exact ⟨HF.out, hE⟩
end Go.Proofs.YtigdflfhepelaaaGreatDoor
/- Are two rows the same; sums of products of short rows. -/
namespace Go.Proofs.YtigdflfhepelaaaGreatDoor
open Go.RowKit
set_option linter.unusedVariables false
set_option maxHeartbeats 400000

/-- Two arrays of three limbs: are they the same. -/
theorem eq3 (a0 a1 a2 b0 b1 b2 : Int) (w : World) : (Op.equalIn 10000 135 (.agg #[.int .u32 a0, .int .u32 a1, .int .u32 a2]) (.agg #[.int .u32 b0, .int .u32 b1, .int .u32 b2])).run Tryz.prog w = .ok (a0 == b0 && (a1 == b1 && a2 == b2)) w := by
  have u3 := Tryz.underlying46
  have a3 := Tryz.isAgg46
  have z3 := Tryz.sizeOf46
  rw [show (10000 : Nat) = 9999 + 1 from rfl, Op.equalIn]
  simp only [Sem.run_bind, run_underlying Tryz.underlying135, Result.andThen_ok]
  simp only [Std.Legacy.Range.forIn_eq_forIn_range', Std.Legacy.Range.size, Nat.sub_zero, Nat.add_sub_cancel, Nat.div_one, List.range'_succ, List.range'_zero, List.forIn_cons, List.forIn_nil]
  go_simp
  by_cases h1 : a0 = b0 <;> by_cases h2 : a1 = b1 <;> by_cases h3 : a2 = b2 <;> simp [h1, h2, h3]

/-- A slice of three limbs each that reads as these numbers. -/
def U3 (w : World) (v : Value) (cs : List Nat) : Prop :=
  ∃ (A : Option Addr) (c : Nat), v = .slice A cs.length c ∧ (cs.length ≤ c ∧ cs.length ≤ 9223372036854775807) ∧
    (0 < cs.length → ∃ ad, A = some ad ∧ ad.block < w.heap.size ∧ ∀ j, j < cs.length * 3 → w.cell? (ad.add j) = some (.int .u32 (lb (fl cs) j : Nat)))
theorem U3.below {w w' : World} {v : Value} {cs : List Nat} (h : U3 w v cs) (hb : Below w.heap.size w w') : U3 w' v cs := by
  obtain ⟨A, c, rfl, hc, hr⟩ := h
  refine ⟨A, c, rfl, hc, fun h0 => ?_⟩
  obtain ⟨ad, hA, hbk, hcell⟩ := hr h0
  exact ⟨ad, hA, Nat.lt_of_lt_of_le hbk hb.size, fun j hj => (hb.cell (p := ad.add j) (by rw [addr_add_block]; exact hbk)).trans (hcell j hj)⟩
theorem U3.alloc {w : World} {v : Value} {xs : List Nat} (h : U3 w v xs) (o : Obj) : U3 (w.alloc o) v xs := U3.below h ((Ext.refl w).alloc o)
theorem U3.nil_ (w : World) (A : Option Addr) (c : Nat) : U3 w (.slice A 0 c) [] := ⟨A, c, rfl, ⟨Nat.zero_le _, Nat.zero_le _⟩, fun h => absurd h (by simp)⟩
theorem Own3.toU {w : World} {base g n c : Nat} {o : List Nat} (h : Own3 w base (.slice (some ⟨g, 0, none⟩) n c) o) : U3 w (.slice (some ⟨g, 0, none⟩) n c) o := by
  obtain ⟨e, h1, h2⟩ := h.caps
  subst e
  refine ⟨_, c, rfl, ⟨h1, by unfold maxLen at h2; omega⟩, fun h0 => ⟨_, rfl, h.block.2, fun j hj => ?_⟩⟩
  rw [addr_zero_add]; exact h.cell hj
theorem fl_inj {cs ds : List Nat} (hl : cs.length = ds.length) (h1 : ∀ x ∈ cs, x < 79228162514264337593543950336) (h2 : ∀ x ∈ ds, x < 79228162514264337593543950336) {m : Nat}
    (e0 : lb cs m % 4294967296 = lb ds m % 4294967296) (e1 : lb cs m / 4294967296 % 4294967296 = lb ds m / 4294967296 % 4294967296) (e2 : lb cs m / 18446744073709551616 % 4294967296 = lb ds m / 18446744073709551616 % 4294967296) : lb cs m = lb ds m := by
  have a := lb_lt_of (by decide) h1 m
  have b := lb_lt_of (by decide) h2 m
  omega

theorem addr_at (a : Addr) (n : Nat) (h : n ≠ 0) : a.add n = ⟨a.block, a.off + n, none⟩ := by unfold Addr.add; simp [h]
end Go.Proofs.YtigdflfhepelaaaGreatDoor
/- Sums of products of rows of which one is short. -/
namespace Go.Proofs.YtigdflfhepelaaaGreatDoor
open Go.RowKit
set_option linter.unusedVariables false
set_option maxHeartbeats 400000

/-- All sums; none where a row is empty. -/
def cvs (a b : List Nat) : List Nat := if a.length = 0 ∨ b.length = 0 then [] else conv a b
theorem cvs_nil (a b : List Nat) (h : a.length = 0 ∨ b.length = 0) : cvs a b = [] := if_pos h
theorem cvs_pos (a b : List Nat) (ha : 0 < a.length) (hb : 0 < b.length) : cvs a b = conv a b := if_neg (by omega)
theorem conv_empty (w : World) (v u : Value) (a b : List Nat) (h : U w v a) (g : U w u b) (he : a.length = 0 ∨ b.length = 0) :
    Calls Tryz.prog 96 #[v, u] w fun e w' => e = .returned (.slice none 0 0) ∧ w = w' := by
  obtain ⟨A, c, rfl, _⟩ := h.shape
  obtain ⟨A2, c2, rfl, _⟩ := g.shape
  clear h g
  generalize a.length = na at *
  generalize b.length = nb at *
  by_cases h0 : na = 0
  · subst h0
    go_enter Tryz.func96, Tryz.ntmps96
    go_wp2
    go_ret
    exact ⟨rfl, rfl⟩
  · have hb : nb = 0 := by omega
    subst hb
    have hz : (((na : Nat) : Int) == 0) = false := by rw [beq_eq_false_iff_ne]; omega
    clear he h0
    go_enter Tryz.func96, Tryz.ntmps96
    go_wp2
    go_ret
    exact ⟨rfl, rfl⟩
theorem conv_small (w : World) (v u : Value) (a b : List Nat) (h : U w v a) (g : U w u b) (hal : a.length ≤ 1000000) (hbl : b.length ≤ 1000000) (hs : min a.length b.length ≤ 24) :
    Calls Tryz.prog 96 #[v, u] w fun e w' => (∃ z, e = .returned z ∧ U3 w' z (cvs a b)) ∧ Ext w w' := by
  by_cases he : a.length = 0 ∨ b.length = 0
  · exact (conv_empty w v u a b h g he).mono fun e w' ⟨h1, h2⟩ => ⟨⟨_, h1, by rw [cvs_nil a b he]; exact U3.nil_ _ _ _⟩, by rw [← h2]; exact Ext.refl w⟩
  · have ha0 : 0 < a.length := by omega
    have hb0 : 0 < b.length := by omega
    have HD := Lib.hid (direct_calls w v u a b h g ha0 hb0 hal hbl)
    rw [cvs_pos a b ha0 hb0]
    obtain ⟨A, c, rfl, _⟩ := h.shape
    obtain ⟨A2, c2, rfl, _⟩ := g.shape
    clear h g
    generalize a.length = na at *
    generalize b.length = nb at *
    have hz : (((na : Nat) : Int) == 0) = false := by rw [beq_eq_false_iff_ne]; omega
    have hz2 : (((nb : Nat) : Int) == 0) = false := by rw [beq_eq_false_iff_ne]; omega
    obtain ⟨m, hm⟩ : ∃ m, min na nb = m := ⟨_, rfl⟩
    have hmi : min ((na : Nat) : Int) ((nb : Nat) : Int) = (m : Int) := by omega
    have hm24 : m ≤ 24 := by omega
    have hmd : decide ((m : Int) ≤ 24) = true := by rw [decide_eq_true_iff]; omega
    clear hs
    clear he
    go_enter Tryz.func96, Tryz.ntmps96
    go_wp2_with (fail)
    all_goals
      refine HD.out.mono ?_
      rintro e w1 ⟨⟨gg, rfl, ho⟩, hB⟩
      have hU := ho.toU
      clear ho
      generalize (conv a b).length = n at *
      have HF : Hid (∃ z, Ending.returned (.slice (some ⟨gg, 0, none⟩) n n) = .returned z ∧ U3 w1 z (conv a b)) := ⟨_, rfl, hU⟩
      clear hU
      go_wp2
      go_ret
      exact ⟨HF.out, hB⟩
end Go.Proofs.YtigdflfhepelaaaGreatDoor
/- The transform as one row of numbers; the contracts in one form. -/
namespace Go.Proofs.YtigdflfhepelaaaGreatDoor
open Go.RowKit
set_option linter.unusedVariables false
set_option maxHeartbeats 400000

/-- A sum of naturals. -/
def nsum : Nat → (Nat → Nat) → Nat
  | 0, _ => 0
  | n + 1, f => nsum n f + f n
theorem nsum_cast (n : Nat) (f : Nat → Nat) : ((nsum n f : Nat) : Int) = sm n fun i => ((f i : Nat) : Int) := by
  induction n with
  | zero => rfl
  | succ n ih => rw [nsum, sm_succ, ← ih, Int.natCast_add]
theorem nsum_congr {n : Nat} {f g : Nat → Nat} (h : ∀ i, i < n → f i = g i) : nsum n f = nsum n g := by
  induction n with
  | zero => rfl
  | succ n ih => rw [nsum, nsum, ih fun i hi => h i (by omega), h n (by omega)]
theorem nsum_mod (n p : Nat) (f g : Nat → Nat) (h : ∀ i, i < n → f i % p = g i % p) : nsum n f % p = nsum n g % p := by
  induction n with
  | zero => rfl
  | succ n ih => rw [nsum, nsum, Nat.add_mod, ih fun i hi => h i (by omega), h n (by omega), ← Nat.add_mod]
/-- What stands in place j. -/
def dv (p W S n : Nat) (l : List Nat) (j : Nat) : Nat := S * nsum n (fun i => lb l i * W ^ (i * j)) % p
def trv (p W S n : Nat) (l : List Nat) : List Nat := (List.range n).map (dv p W S n l)
theorem trv_len (p W S n : Nat) (l : List Nat) : (trv p W S n l).length = n := by simp [trv]
theorem lb_trv (p W S n : Nat) (l : List Nat) (j : Nat) (h : j < n) : lb (trv p W S n l) j = dv p W S n l j := lb_map _ _ _ h
theorem dv_mod (p W S n : Nat) (l : List Nat) (j : Nat) : dv p W S n l j = dv p (W % p) (S % p) n l j := by
  unfold dv
  rw [mul_mod2, Nat.mul_mod, nsum_mod n p _ (fun i => lb l i * (W % p) ^ (i * j)) (fun i _ => by rw [Nat.mul_mod, ← pow_mod2, ← Nat.mul_mod]), ← Nat.mul_mod]
theorem trv_mod (p W S n : Nat) (l : List Nat) : trv p W S n l = trv p (W % p) (S % p) n l := by
  unfold trv
  exact List.map_congr_left fun j _ => dv_mod p W S n l j
theorem dv_lt (p W S n : Nat) (l : List Nat) (j : Nat) (hp : 0 < p) : dv p W S n l j < p := Nat.mod_lt _ hp
theorem trv_lt (p W S n : Nat) (l : List Nat) (hp : 0 < p) : ∀ x ∈ trv p W S n l, x < p := by
  intro x hx
  obtain ⟨j, _, rfl⟩ := List.mem_map.1 hx
  exact dv_lt _ _ _ _ _ _ hp
theorem dv_eqm (p W S n : Nat) (l : List Nat) (j : Nat) : Eqm (p : Int) ((dv p W S n l j : Nat) : Int) ((S : Int) * dft (W : Int) n (seq l) j) := by
  unfold dv dft seq
  refine (Eqm.nat_mod _ _).trans (Eqm.of_eq ?_)
  rw [Int.natCast_mul, nsum_cast]
  congr 1
theorem TrOut.eq {f : Fd} {k W S : Nat} {l out : List Nat} (h : TrOut f k W S l out) (hp : 0 < f.p) : out = trv f.p W S (2 ^ k) l := by
  refine ext_lb (by rw [h.len, trv_len]) fun j hj => ?_
  rw [h.len] at hj
  rw [lb_trv _ _ _ _ _ _ hj]
  exact ((h.at_ j hj).trans (dv_eqm _ _ _ _ _ _).symm).eq (lb_lt_of hp h.lt _) (dv_lt _ _ _ _ _ _ hp)

theorem conv_B (w : World) (v u : Value) (a b : List Nat) (h : U w v a) (g : U w u b) (hal : a.length ≤ 1000000) (hbl : b.length ≤ 1000000) (hs : min a.length b.length ≤ 24) (cs : List Nat) (hc : cvs a b = cs) :
    Calls Tryz.prog 96 #[v, u] w fun e w' => ∃ z, e = .returned z ∧ U3 w' z cs ∧ Ext w w' :=
  (conv_small w v u a b h g hal hbl hs).mono fun e w' ⟨⟨z, he, hz⟩, hB⟩ => ⟨z, he, by rw [← hc]; exact hz, hB⟩
theorem convE_B (w : World) (v u : Value) (a b : List Nat) (h : U w v a) (g : U w u b) (he : a.length = 0 ∨ b.length = 0) :
    Calls Tryz.prog 96 #[v, u] w fun e w' => e = .returned (.slice none 0 0) ∧ Ext w w' :=
  (conv_empty w v u a b h g he).mono fun e w' ⟨h1, h2⟩ => ⟨h1, by rw [← h2]; exact Ext.refl w⟩
theorem U3_lit2 (w : World) (N : Nat) (hN : w.heap.size = N) (cs : List Nat) (hm : cs.length ≤ 1000) : U3 (w.alloc (.cells (L32 (fl cs)).toArray 135)) (.slice (some ⟨N, 0, none⟩) cs.length cs.length) cs := by
  subst hN
  refine Own3.toU (base := w.heap.size) ?_
  have := World.ownsRow_lit (base := w.heap.size) (e := 135) (size := 3) w (L32 (fl cs)).toArray cs.length (Nat.le_refl _) (by unfold maxLen; omega) (by simp [L32_length, fl_len])
  unfold Own3
  simpa using this

/-- Values by squaring. -/
theorem rt_val (f : Fd) (k v : Nat) (h1 : (f.p - 1) / 2 ^ k < 2 ^ 30) (h : pm f.p 30 f.root ((f.p - 1) / 2 ^ k) = v) : rt f k % f.p = v := by
  unfold rt; rw [← pm_eq _ 30 _ _ h1]; exact h
theorem bt_val (f : Fd) (k r v : Nat) (hr : rt f k % f.p = r) (h1 : f.p - 2 < 2 ^ 30) (h : pm f.p 30 r (f.p - 2) = v) : bt f k % f.p = v := by
  unfold bt; rw [← pow_mod2, hr, ← pm_eq _ 30 _ _ h1]; exact h
theorem sh_val (f : Fd) (n v : Nat) (h1 : f.p - 2 < 2 ^ 30) (h : pm f.p 30 n (f.p - 2) = v) : sh f n % f.p = v := by
  unfold sh; rw [← pm_eq _ 30 _ _ h1]; exact h
theorem tr_val (p W S n : Nat) (l out : List Nat) (W' S' : Nat) (hW : W % p = W') (hS : S % p = S') (h : trv p W' S' n l = out) : trv p W S n l = out := by
  rw [trv_mod, hW, hS]; exact h
theorem rt01 : rt (fd 0) 0 % (fd 0).p = 1 := rt_val _ _ _ (by decide +kernel) (by decide +kernel)
theorem rt02 : rt (fd 0) 1 % (fd 0).p = 998244352 := rt_val _ _ _ (by decide +kernel) (by decide +kernel)
theorem rt03 : rt (fd 0) 2 % (fd 0).p = 911660635 := rt_val _ _ _ (by decide +kernel) (by decide +kernel)
theorem rt04 : rt (fd 1) 20 % (fd 1).p = 197868229 := rt_val _ _ _ (by decide +kernel) (by decide +kernel)
theorem rt05 : rt (fd 2) 2 % (fd 2).p = 65249968 := rt_val _ _ _ (by decide +kernel) (by decide +kernel)
theorem rt06 : rt (fd 1) 0 % (fd 1).p = 1 := rt_val _ _ _ (by decide +kernel) (by decide +kernel)
theorem hv1 : trv (fd 0).p (rt (fd 0) 1) 1 (2 ^ 1) [5, 7] = [12, 998244351] := tr_val _ _ _ _ _ _ _ 1 rt02 (by decide +kernel) (by decide +kernel)
theorem hv2 : trv (fd 0).p (bt (fd 0) 1) (sh (fd 0) (2 ^ 1)) (2 ^ 1) [12, 998244351] = [5, 7] :=
  tr_val _ _ _ _ _ _ 998244352 499122177 (bt_val _ _ _ _ rt02 (by decide +kernel) (by decide +kernel)) (sh_val _ _ _ (by decide +kernel) (by decide +kernel)) (by decide +kernel)
theorem hv3 : trv (fd 2).p (rt (fd 2) 2) 1 (2 ^ 2) [1, 2, 3, 4] = [10, 37272223, 167772159, 130499934] := tr_val _ _ _ _ _ _ _ 1 rt05 (by decide +kernel) (by decide +kernel)
theorem hv4 : trv (fd 1).p (bt (fd 1) 0) (sh (fd 1) (2 ^ 0)) (2 ^ 0) [9] = [9] :=
  tr_val _ _ _ _ _ _ 1 1 (bt_val _ _ _ _ rt06 (by decide +kernel) (by decide +kernel)) (sh_val _ _ _ (by decide +kernel) (by decide +kernel)) (by decide +kernel)
theorem hv5 : cvs [4294967295] [4294967295] = [18446744065119617025] := by decide +kernel
theorem hv6 : cvs [1, 2] [3, 4, 5] = [3, 10, 13, 10] := by decide +kernel
theorem no3 : ∀ k, k ≤ 16 → ([1, 2, 3] : List Nat).length ≠ 2 ^ k := by decide +kernel
theorem no0 : ∀ k, k ≤ 16 → ([] : List Nat).length ≠ 2 ^ k := by decide +kernel
end Go.Proofs.YtigdflfhepelaaaGreatDoor
/- The calls whose answers the document fixes. -/
namespace Go.Proofs.YtigdflfhepelaaaGreatDoor
open Go.RowKit
set_option linter.unusedVariables false

end Go.Proofs.YtigdflfhepelaaaGreatDoor
/- What every statement's proof ends with: the table read; the arguments opened, and read again behind the call. -/
namespace Go.Proofs.YtigdflfhepelaaaGreatDoor
open Go.ChangeShapes Go.WideShapes Go.ChangeAt Go.RowKit
set_option linter.unusedVariables false
set_option maxRecDepth 100000

theorem own : ownKnob Tryz.prog.godebug = none := by kernel_rfl
theorem laidOut : laidOutB Tryz.prog = true := by kernel_rfl
theorem cells32 : Tryz.prog.cellsOf 46 = 1 := by kernel_rfl
theorem cellsFd : Tryz.prog.cellsOf 137 = 5 := by kernel_rfl
theorem cellsTab : Tryz.prog.cellsOf 138 = 15 := by kernel_rfl
theorem gTab : Tryz.prog.globalNamed "ziggurat/ntt.fields" = some 0 := by kernel_rfl
theorem tTab : (Tryz.prog.globals[0]?).map (·.type) = some 138 := by kernel_rfl
abbrev laidT : List (String × DataW Unit) := [("ziggurat/ntt.fields", Rows.laid_ziggurat_ntt_fields)]

theorem fd_of_trod {H : Type} {enc : TypeId × Value → H} {W : World} {sp : Nat → Bool} {held : Bool} {m : Nat} {cs : List Value} {y : DataW H × List MemPlace}
    (h : DataW.trod enc Tryz.prog W 0 sp held m 137 cs = some y) : ∃ a b c d e : Int, cs = [.int .u32 a, .int .u32 b, .int .u32 c, .int .u32 d, .int .u32 e] ∧ y.1 = .agg [.lit (.int .u32 a), .lit (.int .u32 b), .lit (.int .u32 c), .lit (.int .u32 d), .lit (.int .u32 e)] := by
  obtain ⟨ys, n, _, rfl, hl, hlen, hf⟩ := DataW.trod_struct Tryz.underlying137 h
  rw [cellsFd] at hl
  match cs, hl, ys, hlen, hf with
  | [c0, c1, c2, c3, c4], _, [y0, y1, y2, y3, y4], _, hf =>
    have h0 := hf 0 _ rfl
    have h1 := hf 1 _ rfl
    have h2 := hf 2 _ rfl
    have h3 := hf 3 _ rfl
    have h4 := hf 4 _ rfl
    simp [cells32] at h0 h1 h2 h3 h4
    obtain ⟨a, e0, rfl, _⟩ := DataW.trod_int Tryz.underlying46 h0
    obtain ⟨b, e1, rfl, _⟩ := DataW.trod_int Tryz.underlying46 h1
    obtain ⟨c, e2, rfl, _⟩ := DataW.trod_int Tryz.underlying46 h2
    obtain ⟨d, e3, rfl, _⟩ := DataW.trod_int Tryz.underlying46 h3
    obtain ⟨e, e4, rfl, _⟩ := DataW.trod_int Tryz.underlying46 h4
    simp at e0 e1 e2 e3 e4
    subst e0 e1 e2 e3 e4
    exact ⟨a, b, c, d, e, rfl, rfl⟩

theorem gl_of_laid {W : World} (h : laidMetH Tryz.prog laidT W) : Gl W := by
  rw [MakeChecks.laidMetH_plain _ _ _ (by kernel_rfl)] at h
  obtain ⟨ps, ⟨g0, t0, cs0, f0, p0, q0, hg0, ht0, hv0, hd0, _, _⟩, _⟩ := h
  obtain rfl := Option.some.inj (gTab.symm.trans hg0)
  obtain rfl := Option.some.inj (tTab.symm.trans ht0)
  obtain ⟨xs, m1, rfl, hx1, hlen, hn3, hel⟩ := DataW.trod_array Tryz.underlying138 hd0
  rw [cellsTab] at hlen
  simp only [cellsFd] at hel
  match xs, hn3, hx1, hel with
  | [x0, x1, x2], _, hx1, hel =>
    have e0 := hel 0 (by decide)
    have e1 := hel 1 (by decide)
    have e2 := hel 2 (by decide)
    simp at e0 e1 e2
    obtain ⟨a0, b0, c0, d0, f0, k0, j0⟩ := fd_of_trod e0
    obtain ⟨a1, b1, c1, d1, f1, k1, j1⟩ := fd_of_trod e1
    obtain ⟨a2, b2, c2, d2, f2, k2, j2⟩ := fd_of_trod e2
    simp only [Prod.mk.injEq, DataW.agg.injEq, List.map_cons, List.map_nil, Rows.laid_ziggurat_ntt_fields, List.cons.injEq, j0, j1, j2, DataW.lit.injEq, Lit.int.injEq, and_true, true_and] at hx1
    obtain ⟨⟨⟨rfl, rfl, rfl, rfl, rfl⟩, ⟨rfl, rfl, rfl, rfl, rfl⟩, ⟨rfl, rfl, rfl, rfl, rfl⟩⟩, _⟩ := hx1
    obtain ⟨l⟩ := cs0
    have hl15 : l = [.int .u32 998244353, .int .u32 3, .int .u32 998244351, .int .u32 932051910, .int .u32 0, .int .u32 469762049, .int .u32 3, .int .u32 469762047, .int .u32 460175152, .int .u32 305718167, .int .u32 167772161, .int .u32 3, .int .u32 167772159, .int .u32 40265974, .int .u32 115614034] := by
      have e : l = l.take 5 ++ ((l.drop 5).take 5 ++ (l.drop 10).take 5) := by
        have h10 : l.drop 10 = (l.drop 5).drop 5 := by rw [List.drop_drop]
        have h5 : (l.drop 10).take 5 = l.drop 10 := List.take_of_length_le (by simp at hlen; simp [hlen])
        rw [h5, h10, List.take_append_drop, List.take_append_drop]
      rw [e, k0, k1, k2]; rfl
    subst hl15
    have hc := fun k => World.var?_cell hg0 hv0 k
    refine ⟨?_, ⟨hc 0, hc 1, hc 2, hc 3, hc 4⟩, ⟨hc 5, hc 6, hc 7, hc 8, hc 9⟩, ⟨hc 10, hc 11, hc 12, hc 13, hc 14⟩⟩
    have := World.block_lt_of_cell? W ⟨0, 0, none⟩ (hc 0)
    exact this

/-- The heap that the program's own text lays meets the condition. -/
theorem door_met (os : Os) (args : Array Value) : laidMetH Tryz.prog laidT ((World.doorLaid Tryz.prog 400 os).forCall (fun _ _ => 0) ⟨#[], args, []⟩).memory :=
  laidMetH_of_parts3 (fuel := 8) (laidMet_of_run' 8 (by kernel_rfl) (by kernel_rfl)) (by kernel_rfl) (by kernel_rfl)

/-- All arguments read behind a call that turns nothing as they read before it. -/
theorem trodAll_after {H : Type} {enc : TypeId × Value → H} {W W' : World} {sp : Nat → Bool} (hB : Ext W W') : ∀ {ts : List TypeId} {vs : List Value} {ds : List (DataW H)} {ps : List MemPlace},
    (∀ t ∈ ts, Tryz.prog.readableRec t = true ∧ t < Tryz.prog.types.size) → DataW.TrodAll enc Tryz.prog W 0 (fun _ => true) true ts vs ds ps → (∀ p ∈ ps, p.block < W.heap.size) → (∀ p ∈ ps, sp p.block = true) → DataW.TrodAll enc Tryz.prog W' 0 sp true ts vs ds ps
  | [], [], [], _, _, h, _, _ => h
  | t :: _, _ :: _, _ :: _, _, hT, ⟨p, q, h1, h2, e⟩, hlt, hs => ⟨p, q,
      WideElems.Trod_stays laidOut (hT t (List.mem_cons_self ..)).1 (hT t (List.mem_cons_self ..)).2 h1 (fun x hx => Below.same hB (hlt x (by rw [e]; exact List.mem_append_left _ hx))) (fun x hx => hs x (by rw [e]; exact List.mem_append_left _ hx)),
      trodAll_after hB (fun t ht => hT t (List.mem_cons_of_mem _ ht)) h2 (fun x hx => hlt x (by rw [e]; exact List.mem_append_right _ hx)) (fun x hx => hs x (by rw [e]; exact List.mem_append_right _ hx)), e⟩

/-- WHAT A STATEMENT ASKS BEHIND THE CALL: true; the arguments read as they did. -/
theorem law_post {H : Type} {enc : TypeId × Value → H} {f : Func} {s : ChangeSpec} {apart fresh handsOn again : Bool} {W W' : World} {args : Array Value} {ds gs : List (DataW H)} {before : List MemPlace}
    (hW : DataW.Whole enc Tryz.prog f.params.toList s.vars apart W args.toList ds gs before) (hv : s.vars = []) (hT : ∀ t ∈ f.params.toList, Tryz.prog.readableRec t = true ∧ t < Tryz.prog.types.size)
    (hres : f.resultTypes = #[4]) (hfn : (s.fn H (ds ++ gs)).results = [.lit (.bool true)]) (hfa : (s.fn H (ds ++ gs)).args = ds) (hfv : (s.fn H (ds ++ gs)).vars = []) (hB : Ext W W') :
    s.post enc Tryz.prog f apart fresh handsOn again W args (.bool true) W' := by
  have hlt : ∀ p ∈ before, p.block < W.heap.size := fun p hp => hW.lt p hp
  have hold : ∀ p ∈ before, (fun b => decide (b < W.heap.size)) p.block = true := fun p hp => by simpa using hlt p hp
  have hres' : ∀ (b : Nat) (sp : Nat → Bool) (hd : Bool), DataW.TrodAll enc Tryz.prog W' b sp hd f.resultTypes.toList ((Value.bool true).resultList f.resultTypes.size) (s.fn H (ds ++ gs)).results [] := by
    intro b sp hd
    rw [hres, hfn]
    exact trodAll_mk1 (shut_bool Tryz.underlying4 _)
  have hW2 := hW
  obtain ⟨p, q, hA, hV, hpq, hz, hn⟩ := hW
  rw [hv] at hV
  obtain ⟨_, rfl⟩ := trodVars_none hV
  rw [List.append_nil] at hpq
  subst hpq
  have hargs : ∀ sp : Nat → Bool, (∀ p' ∈ before, sp p'.block = true) → DataW.TrodAll enc Tryz.prog W' 0 sp true f.params.toList args.toList (s.fn H (ds ++ gs)).args before := fun sp hs => by
    rw [hfa]; exact trodAll_after hB hT hA hlt hs
  have hvars : ∀ sp : Nat → Bool, DataW.TrodVars enc Tryz.prog W' sp s.vars (s.fn H (ds ++ gs)).vars [] := fun sp => by rw [hv, hfv]; exact rfl
  refine ⟨ds, gs, before, [], before, [], hW2, hres' _ _ _, hargs _ hold, hvars _, World.keptBut_mono (fun p hp => ⟨hp, ?_⟩) (Below.frame hB (· ∈ before)), fun _ => ?_⟩
  · simpa using hp
  · refine ⟨ok_one hres rfl (okWide_bool_mk Tryz.underlying4 _), _, _, ([] ++ before) ++ [], ⟨[] ++ before, [], trodAll_append (hargs _ (fun _ _ => rfl)) (hres' _ _ _), hvars _, rfl, ?_, ?_⟩, ?_⟩
    · intro b off hp
      have hin : MemPlace.cell b off ∈ before := by simpa using hp
      rw [Below.frozen hB (hlt _ hin)]
      exact hz b off hin
    · intro ha
      have := hn ha
      simpa using this
    · intro p hp _
      simpa using hp

/-- A slice of 32-bit limbs among the arguments. -/
theorem open_limbs {H : Type} {enc : TypeId × Value → H} {W : World} {base : Nat} {v : Value} {d : DataW H} {ps : List MemPlace} (hval : Value.okWide Tryz.prog W .any base 22 v) (h : DataW.Trod enc Tryz.prog W 0 (fun _ => true) true 22 v d ps)
    (hlt : ∀ p ∈ ps, p.block < W.heap.size) : ∃ xs : List Nat, U W v xs := by
  obtain ⟨a0, len, cap, rfl⟩ := okWide_slice Tryz.underlying22 hval
  obtain ⟨fuel, hf⟩ := h
  rcases open_ints Tryz.underlying22 Tryz.underlying46 cells32 hf with ⟨hcs, hx⟩ | ⟨a, len', cap', zs, hcs, _, hl, hm, hz, hx, hcell, hwz⟩
  · simp [Value.cells] at hcs
    obtain ⟨rfl, rfl, rfl⟩ := hcs
    exact ⟨[], U.nil_ _ _ _⟩
  · simp [Value.cells] at hcs
    obtain ⟨rfl, rfl, rfl⟩ := hcs
    simp only [if_true] at hz
    have hlen : ((zs.take len).map Int.toNat).length = len := by simp; omega
    have hb : ∀ z ∈ zs, 0 ≤ z ∧ z < 4294967296 := fun z hzz => by have := bounds_u32 (hwz z hzz); omega
    refine ⟨(zs.take len).map Int.toNat, some a, cap, by rw [hlen], ⟨by rw [hlen]; exact hl, by rw [hlen]; unfold maxLen at hm; omega⟩, ?_, fun h0 => ⟨a, rfl, ?_, fun j hj => ?_⟩⟩
    · intro x hx'
      obtain ⟨z, hz1, rfl⟩ := List.mem_map.1 hx'
      have := hb z (List.mem_of_mem_take hz1)
      omega
    · rw [hlen] at h0
      have hc := hcell 0 (by omega)
      rw [addr_add_zero] at hc
      unfold World.cell? at hc
      rcases Nat.lt_or_ge a.block W.heap.size with h | h
      · exact h
      · rw [Array.getElem?_eq_none h] at hc; cases hc
    · rw [hlen] at hj
      have hjz : j < zs.length := by omega
      have e : lb ((zs.take len).map Int.toNat) j = (zs.getD j 0).toNat := by
        simp [lb, hj, hjz]
      rw [hcell j hjz, e]
      have hmem : zs.getD j 0 ∈ zs := by simp [hjz]
      have := hb _ hmem
      rw [show (((zs.getD j 0).toNat : Nat) : Int) = zs.getD j 0 by omega]
end Go.Proofs.YtigdflfhepelaaaGreatDoor
/- The document's own words that every statement of this stage takes: primes, rows of numbers, lengths. -/
namespace Go.Proofs.YtigdflfhepelaaaGreatDoor
open Go.ChangeShapes Go.WideShapes Go.ChangeAt Go.RowKit
set_option linter.unusedVariables false
set_option maxHeartbeats 400000

theorem i64_and255 (n : Int) : bits .and .i64 n 255 = n % 256 := by
  have h255 : (BitVec.ofInt 64 255).toNat = 2 ^ 8 - 1 := by decide
  have key : (BitVec.ofInt 64 n &&& BitVec.ofInt 64 255).toNat = (n % ((2 ^ 64 : Nat) : Int)).toNat % 2 ^ 8 := by
    rw [BitVec.toNat_and, BitVec.toNat_ofInt, h255, Nat.and_two_pow_sub_one_eq_mod]
  show IntKind.i64.wrap ((BitVec.ofInt 64 n &&& BitVec.ofInt 64 255).toNat : Nat) = n % 256
  rw [key, IntKind.wrap_i64]
  omega

/-- 2^k numbers below p, made of any ones. -/
def rowv (p k : Nat) (l : List Nat) : List Nat := (List.range (2 ^ k)).map fun t => lb l t % p
theorem rowv_len (p k : Nat) (l : List Nat) : (rowv p k l).length = 2 ^ k := by simp [rowv]
theorem lb_rowv (p k : Nat) (l : List Nat) (j : Nat) (h : j < 2 ^ k) : lb (rowv p k l) j = lb l j % p := lb_map _ _ _ h
theorem rowv_lt (p k : Nat) (l : List Nat) (hp : 0 < p) : ∀ x ∈ rowv p k l, x < p := by
  intro x hx
  obtain ⟨j, _, rfl⟩ := List.mem_map.1 hx
  exact Nat.mod_lt _ hp
structure RowI (p n : Nat) (l : List Nat) (t : Nat) (o : List Nat) : Prop where
  len : o.length = n
  lt : ∀ x ∈ o, x < p
  at_ : ∀ j, lb o j = if j < t then lb l j % p else 0
theorem RowI.start (p n : Nat) (l : List Nat) (hp : 0 < p) : RowI p n l 0 (List.replicate n 0) := ⟨by simp, fun x hx => by simp at hx; omega, fun j => by rw [lb_zeros, if_neg (by omega)]⟩
theorem RowI.step {p n : Nat} {l : List Nat} {t : Nat} {o : List Nat} (H : RowI p n l t o) (hp : 0 < p) (ht : t < n) : RowI p n l (t + 1) (o.set t (lb l t % p)) := by
  refine ⟨by simp [H.len], set_lt H.lt (Nat.mod_lt _ hp), fun j => ?_⟩
  rw [lb_set _ _ _ _ (by rw [H.len]; exact ht), H.at_ j]
  by_cases e : t = j
  · subst e; rw [if_pos rfl, if_pos (by omega)]
  · rw [if_neg e]
    by_cases c : j < t
    · rw [if_pos c, if_pos (by omega)]
    · rw [if_neg c, if_neg (by omega)]
theorem RowI.done {p k : Nat} {l : List Nat} {t : Nat} {o : List Nat} (H : RowI p (2 ^ k) l t o) (ht : t = 2 ^ k ∨ l.length ≤ t) : o = rowv p k l := by
  refine ext_lb (by rw [H.len, rowv_len]) fun j hj => ?_
  rw [H.len] at hj
  rw [lb_rowv _ _ _ _ hj, H.at_ j]
  by_cases c : j < t
  · rw [if_pos c]
  · rw [if_neg c, lb_out (o := l) (by omega), Nat.zero_mod]

end Go.Proofs.YtigdflfhepelaaaGreatDoor
/- Lengths of powers of 2; the row of a question; a question among the arguments. -/
namespace Go.Proofs.YtigdflfhepelaaaGreatDoor
open Go.ChangeShapes Go.WideShapes Go.ChangeAt Go.RowKit
set_option linter.unusedVariables false
set_option maxHeartbeats 400000

/-- The prime's number, and how many numbers, that a question names. -/
def ri (I : Int) : Nat := (I % 256).toNat % 3
def rk (K : Int) (m : Nat) : Nat := (K % 256).toNat % (m + 1)
theorem ri_lt (I : Int) : ri I < 3 := Nat.mod_lt _ (by decide)
theorem rk_le (K : Int) (m : Nat) : rk K m ≤ m := by have := Nat.mod_lt (K % 256).toNat (show 0 < m + 1 by omega); unfold rk; omega

theorem keepA {w x y : World} {B : Nat} {v0 v1 v2 v3 : Value} (h : (B < x.heap.size ∧ x.cell? ⟨B, 0, none⟩ = some v0 ∧ x.cell? ⟨B, 1, none⟩ = some v1 ∧ x.cell? ⟨B, 2, none⟩ = some v2 ∧ x.cell? ⟨B, 3, none⟩ = some v3) ∧ Ext w x) (hB : Ext x y) :
    (B < y.heap.size ∧ y.cell? ⟨B, 0, none⟩ = some v0 ∧ y.cell? ⟨B, 1, none⟩ = some v1 ∧ y.cell? ⟨B, 2, none⟩ = some v2 ∧ y.cell? ⟨B, 3, none⟩ = some v3) ∧ Ext w y := by
  obtain ⟨⟨h0, h1, h2, h3, h4⟩, h6⟩ := h
  have hc := fun o => hB.cell (p := ⟨B, o, none⟩) h0
  exact ⟨⟨Nat.lt_of_lt_of_le h0 hB.size, by rw [hc]; exact h1, by rw [hc]; exact h2, by rw [hc]; exact h3, by rw [hc]; exact h4⟩, h6.below hB⟩

/-- The transform, either way. -/
def tfl (i k : Nat) (b : Bool) (l : List Nat) : List Nat := if b then trv (fd i).p (bt (fd i) k) (sh (fd i) (2 ^ k)) (2 ^ k) l else trv (fd i).p (rt (fd i) k) 1 (2 ^ k) l
theorem tfl_len (i k : Nat) (b : Bool) (l : List Nat) : (tfl i k b l).length = 2 ^ k := by unfold tfl; split <;> exact trv_len _ _ _ _ _
theorem tfl_lt (i k : Nat) (b : Bool) (l : List Nat) : ∀ x ∈ tfl i k b l, x < (fd i).p := by
  have := (fd_fld i).good.p0
  unfold tfl; split
  · exact trv_lt _ _ _ _ _ (by omega)
  · exact trv_lt _ _ _ _ _ (by omega)
theorem open_limbs1 {H : Type} {enc : TypeId × Value → H} {W : World} {fuel : Nat} {v : Value} {y : DataW H × List MemPlace} (hf : DataW.trod enc Tryz.prog W 0 (fun _ => true) true fuel 22 [v] = some y) :
    ∃ xs : List Nat, U W v xs := by
  rcases open_ints Tryz.underlying22 Tryz.underlying46 cells32 hf with ⟨hcs, hx⟩ | ⟨a, len, cap', zs, hcs, _, hl, hm, hz, hx, hcell, hwz⟩
  · simp at hcs
    subst hcs
    exact ⟨[], U.nil_ _ _ _⟩
  · simp at hcs
    subst hcs
    simp only [if_true] at hz
    have hlen : ((zs.take len).map Int.toNat).length = len := by simp; omega
    have hb : ∀ z ∈ zs, 0 ≤ z ∧ z < 4294967296 := fun z hzz => by have := bounds_u32 (hwz z hzz); omega
    refine ⟨(zs.take len).map Int.toNat, some a, cap', by rw [hlen], ⟨by rw [hlen]; exact hl, by rw [hlen]; unfold maxLen at hm; omega⟩, ?_, fun h0 => ⟨a, rfl, ?_, fun j hj => ?_⟩⟩
    · intro x hx'
      obtain ⟨z, hz1, rfl⟩ := List.mem_map.1 hx'
      have := hb z (List.mem_of_mem_take hz1)
      omega
    · rw [hlen] at h0
      have hc := hcell 0 (by omega)
      rw [addr_add_zero] at hc
      unfold World.cell? at hc
      rcases Nat.lt_or_ge a.block W.heap.size with h | h
      · exact h
      · rw [Array.getElem?_eq_none h] at hc; cases hc
    · rw [hlen] at hj
      have hjz : j < zs.length := by omega
      have e : lb ((zs.take len).map Int.toNat) j = (zs.getD j 0).toNat := by
        simp [lb, hj, hjz]
      rw [hcell j hjz, e]
      have hmem : zs.getD j 0 ∈ zs := by simp [hjz]
      have := hb _ hmem
      rw [show (((zs.getD j 0).toNat : Nat) : Int) = zs.getD j 0 by omega]

end Go.Proofs.YtigdflfhepelaaaGreatDoor
/- What a transform undoes, turns, and does to sums and products. -/
namespace Go.Proofs.YtigdflfhepelaaaGreatDoor

theorem dft_add (w : Int) (n : Nat) (a b : Nat → Int) (q : Nat) : dft w n (fun i => a i + b i) q = dft w n a q + dft w n b q := by
  unfold dft; rw [← sm_add]; exact sm_congr fun i _ => Int.add_mul _ _ _
theorem dft_mul (w : Int) (n : Nat) (c : Int) (a : Nat → Int) (q : Nat) : dft w n (fun i => c * a i) q = c * dft w n a q := by
  unfold dft; rw [← sm_mul]; exact sm_congr fun i _ => Int.mul_assoc _ _ _
theorem dft_eqm {p w : Int} {n : Nat} {a b : Nat → Int} {q : Nat} (h : ∀ i, i < n → Eqm p (a i) (b i)) : Eqm p (dft w n a q) (dft w n b q) := Eqm.sm fun i hi => (h i hi).mul (Eqm.refl _ _)
theorem mul_pow (a b : Int) (n : Nat) : (a * b) ^ n = a ^ n * b ^ n := by
  induction n with
  | zero => simp
  | succ n ih => rw [Int.pow_succ, Int.pow_succ, Int.pow_succ, ih]; grind
/-- There and back. -/
theorem dft_back {p w v : Int} {k : Nat} (hw : Rt p w k) (hv : Rt p v k) (hwv : Eqm p (w * v) 1) (l : Nat → Int) (t : Nat) (ht : t < 2 ^ k) :
    Eqm p (dft v (2 ^ k) (fun j => dft w (2 ^ k) l j) t) ((2 ^ k : Nat) * l t) := by
  have e1 : dft v (2 ^ k) (fun j => dft w (2 ^ k) l j) t = sm (2 ^ k) fun i => l i * sm (2 ^ k) fun j => (w ^ i * v ^ t) ^ j := by
    unfold dft
    rw [sm_congr (g := fun j => sm (2 ^ k) fun i => l i * (w ^ i * v ^ t) ^ j) (fun j _ => by
      rw [← sm_mul']; exact sm_congr fun i _ => by rw [mul_pow, ← Int.pow_mul, ← Int.pow_mul, Int.mul_assoc, Nat.mul_comm t j])]
    rw [sm_swap]
    exact sm_congr fun i _ => sm_mul _ _ _
  rw [e1]
  have hp : ∀ m, Eqm p (w ^ m * v ^ m) 1 := fun m => by rw [← mul_pow]; have := hwv.pow m; rwa [Int.one_pow] at this
  have key : ∀ i, i < 2 ^ k → Eqm p (l i * sm (2 ^ k) fun j => (w ^ i * v ^ t) ^ j) (if i = t then (2 ^ k : Nat) * l t else 0) := by
    intro i hi
    by_cases e : i = t
    · subst e
      rw [if_pos rfl, Int.mul_comm]
      refine Eqm.mul ?_ (Eqm.refl _ _)
      refine (Eqm.sm (g := fun _ => 1) fun j _ => ?_).trans (Eqm.of_eq ?_)
      · have := (hp i).pow j; rwa [Int.one_pow] at this
      · rw [sm_const, Int.mul_one]
    · rw [if_neg e]
      have h0 : Eqm p (sm (2 ^ k) fun j => (w ^ i * v ^ t) ^ j) 0 := by
        rcases Nat.lt_or_ge t i with h | h
        · have e2 : Eqm p (w ^ i * v ^ t) (w ^ (i - t)) := by
            rw [show w ^ i = w ^ (i - t) * w ^ t by rw [← Int.pow_add]; congr 1; omega, Int.mul_assoc]
            have := (Eqm.refl p (w ^ (i - t))).mul (hp t); rwa [Int.mul_one] at this
          refine (Eqm.sm fun j _ => e2.pow j).trans (geo p w k (i - t) hw ?_)
          intro hd
          have := Nat.le_of_dvd (by omega) hd
          omega
        · have e2 : Eqm p (w ^ i * v ^ t) (v ^ (t - i)) := by
            rw [show v ^ t = v ^ i * v ^ (t - i) by rw [← Int.pow_add]; congr 1; omega, ← Int.mul_assoc]
            have := (hp i).mul (Eqm.refl p (v ^ (t - i))); rwa [Int.one_mul] at this
          refine (Eqm.sm fun j _ => e2.pow j).trans (geo p v k (t - i) hv ?_)
          intro hd
          have := Nat.le_of_dvd (by omega) hd
          omega
      have := (Eqm.refl p (l i)).mul h0
      rwa [Int.mul_zero] at this
  refine (Eqm.sm key).trans (Eqm.of_eq ?_)
  rw [sm_pick _ _ t ht (fun i _ hne => by rw [if_neg hne]), if_pos rfl]
/-- Turned by one place. -/
theorem dft_turn {p w : Int} {n : Nat} (hw : Eqm p (w ^ (n + 1)) 1) (l m : Nat → Int) (h0 : m 0 = l n) (h1 : ∀ i, i < n → m (i + 1) = l i) (q : Nat) :
    Eqm p (dft w (n + 1) m q) (dft w (n + 1) l q * w ^ q) := by
  have e1 : dft w (n + 1) m q = l n + sm n fun i => l i * w ^ ((i + 1) * q) := by
    unfold dft
    rw [show n + 1 = 1 + n by omega, sm_split, sm_one, h0]
    simp only [Nat.zero_mul, Int.pow_zero, Int.mul_one]
    congr 1
    exact sm_congr fun i hi => by rw [show 1 + i = i + 1 by omega, h1 i hi]
  have e2 : dft w (n + 1) l q * w ^ q = (sm n fun i => l i * w ^ ((i + 1) * q)) + l n * w ^ ((n + 1) * q) := by
    unfold dft
    rw [sm_succ, Int.add_mul, ← sm_mul']
    congr 1
    · exact sm_congr fun i _ => by rw [Int.mul_assoc, ← Int.pow_add, Nat.add_mul, Nat.one_mul]
    · rw [Int.mul_assoc, ← Int.pow_add, Nat.add_mul, Nat.one_mul]
  rw [e1, e2, Int.add_comm]
  refine (Eqm.refl p _).add ?_
  have := (Eqm.refl p (l n)).mul (pow_even hw q)
  rw [Int.mul_one] at this
  exact this.symm
/-- The product of transforms, all around. -/
theorem dft_around {p w : Int} {n : Nat} (hw : Eqm p (w ^ n) 1) (a b : Nat → Int) (q : Nat) :
    Eqm p (dft w n a q * dft w n b q) (dft w n (fun k => sm n fun t => a t * b ((k + n - t) % n)) q) := by
  have e1 : dft w n a q * dft w n b q = sm n fun t => a t * w ^ (t * q) * dft w n b q := by
    rw [sm_mul']; rfl
  have e2 : dft w n (fun k => sm n fun t => a t * b ((k + n - t) % n)) q = sm n fun t => a t * w ^ (t * q) * 0 + a t * sm n fun k => b ((k + n - t) % n) * w ^ (k * q) := by
    unfold dft
    rw [sm_congr (g := fun k => sm n fun t => a t * (b ((k + n - t) % n) * w ^ (k * q))) (fun k _ => by rw [← sm_mul']; exact sm_congr fun t _ => Int.mul_assoc _ _ _)]
    rw [sm_swap]
    exact sm_congr fun t _ => by rw [sm_mul, Int.mul_zero, Int.zero_add]
  rw [e1, e2]
  refine Eqm.sm fun t ht => ?_
  rw [Int.mul_zero, Int.zero_add, Int.mul_assoc]
  refine (Eqm.refl p (a t)).mul ?_
  -- the places from t on stand first
  have hs : sm n (fun k => b ((k + n - t) % n) * w ^ (k * q)) = sm t (fun k => b (k + (n - t)) * w ^ (k * q)) + sm (n - t) (fun i => b i * w ^ ((t + i) * q)) := by
    have hn : n = t + (n - t) := by omega
    conv => lhs; rw [hn]
    rw [sm_split]
    rw [← hn]
    congr 1
    · exact sm_congr fun k hk => by rw [show k + n - t = k + (n - t) by omega, Nat.mod_eq_of_lt (by omega)]
    · exact sm_congr fun i hi => by rw [show t + i + n - t = i + n by omega, Nat.add_mod_right, Nat.mod_eq_of_lt (by omega)]
  have hd : w ^ (t * q) * dft w n b q = sm (n - t) (fun i => b i * w ^ ((t + i) * q)) + sm t (fun k => b (n - t + k) * w ^ ((n + k) * q)) := by
    unfold dft
    rw [← sm_mul]
    have hn : n = (n - t) + t := by omega
    conv => lhs; rw [hn]
    rw [sm_split]
    congr 1
    · exact sm_congr fun i hi => by
        rw [show w ^ (t * q) * (b i * w ^ (i * q)) = b i * (w ^ (t * q) * w ^ (i * q)) by grind, ← Int.pow_add, Nat.add_mul]
    · exact sm_congr fun i hi => by
        rw [show w ^ (t * q) * (b (n - t + i) * w ^ ((n - t + i) * q)) = b (n - t + i) * (w ^ (t * q) * w ^ ((n - t + i) * q)) by grind, ← Int.pow_add, ← Nat.add_mul, show t + (n - t + i) = n + i by omega]
  rw [hs, hd, Int.add_comm]
  refine Eqm.add (Eqm.sm fun k hk => ?_) (Eqm.refl _ _)
  rw [Nat.add_comm k]
  refine (Eqm.refl p _).mul ?_
  rw [Nat.add_mul, Nat.add_comm]
  exact pow_mul_one hw _ _
end Go.Proofs.YtigdflfhepelaaaGreatDoor
