/- join: the number that has three rests, in three limbs. -/
import Derived.Test.YtofhpfmgopmcmaaDoorM4
import Derived.Shelf.Bits.Mul64
import Derived.Deep.Cut
import Derived.Deep.CutRange
import Derived.BigRegion
namespace Go.Proofs.YtofhpfmgopmcmaaDoor
open Go.RowKit
set_option linter.unusedVariables false
set_option maxHeartbeats 400000

set_option maxHeartbeats 1000000 in
theorem mul64_calls (x y : Nat) (hx : x < 18446744073709551616) (hy : y < 18446744073709551616) (w : World) :
    Calls Tryd.prog 53 #[.int .u64 x, .int .u64 y] w fun e w' => e = .returned (.tuple #[.int .u64 ((x * y / 18446744073709551616 : Nat) : Int), .int .u64 ((x * y % 18446744073709551616 : Nat) : Int)]) ∧ w' = w := by
  obtain ⟨bd, bt, bw, hhi⟩ := Lib.mul64_hi x y hx hy
  have ba := Lib.half_mul_le (a := x / 4294967296) (b := y / 4294967296) (by omega) (by omega)
  have bb := Lib.half_mul_le (a := x / 4294967296) (b := y % 4294967296) (by omega) (by omega)
  have bc := Lib.half_mul_le (a := x % 4294967296) (b := y / 4294967296) (by omega) (by omega)
  have ba' : x / 4294967296 * (y / 4294967296) < 18446744073709551616 := by omega
  have bb' : x / 4294967296 * (y % 4294967296) < 18446744073709551616 := by omega
  have bc' : x % 4294967296 * (y / 4294967296) < 18446744073709551616 := by omega
  have bh1 : x / 4294967296 * (y / 4294967296) + (x / 4294967296 * (y % 4294967296) + x % 4294967296 * (y % 4294967296) / 4294967296) / 4294967296 < 18446744073709551616 := by omega
  have bh : x / 4294967296 * (y / 4294967296) + (x / 4294967296 * (y % 4294967296) + x % 4294967296 * (y % 4294967296) / 4294967296) / 4294967296 + ((x / 4294967296 * (y % 4294967296) + x % 4294967296 * (y % 4294967296) / 4294967296) % 4294967296 + x % 4294967296 * (y / 4294967296)) / 4294967296 < 18446744073709551616 := by omega
  go_enter Tryd.func53, Tryd.ntmps53
  go_wp2
  simp only [Mul64.maskN x hx, Mul64.maskN y hy, Mul64.divN, Mul64.mulN, Mul64.addN, Mul64.wrapN _ bd, Mul64.wrapN _ bb', Mul64.wrapN _ bt, Mul64.maskN _ bt, Mul64.wrapN _ bc', Mul64.wrapN _ bw, Mul64.wrapN _ ba', Mul64.wrapN _ bh1, Mul64.wrapN _ bh, Mul64.wrapM (x * y)]
  rw [hhi]
  go_ret2
  exact ⟨rfl, rfl⟩

theorem three (w : World) (B : Nat) (hB : w.heap.size = B) (f g h : Fd) :
    Bx ((((w.alloc (.cells #[.int .u32 (f.p : Int), .int .u32 (f.root : Int), .int .u32 (f.neg : Int), .int .u32 (f.square : Int), .int .u32 (f.ahead : Int)] 56)).alloc (.cells #[.int .u32 (g.p : Int), .int .u32 (g.root : Int), .int .u32 (g.neg : Int), .int .u32 (g.square : Int), .int .u32 (g.ahead : Int)] 56)).alloc (.cells #[.int .u32 (h.p : Int), .int .u32 (h.root : Int), .int .u32 (h.neg : Int), .int .u32 (h.square : Int), .int .u32 (h.ahead : Int)] 56)).drew) B f ∧ Bx ((((w.alloc (.cells #[.int .u32 (f.p : Int), .int .u32 (f.root : Int), .int .u32 (f.neg : Int), .int .u32 (f.square : Int), .int .u32 (f.ahead : Int)] 56)).alloc (.cells #[.int .u32 (g.p : Int), .int .u32 (g.root : Int), .int .u32 (g.neg : Int), .int .u32 (g.square : Int), .int .u32 (g.ahead : Int)] 56)).alloc (.cells #[.int .u32 (h.p : Int), .int .u32 (h.root : Int), .int .u32 (h.neg : Int), .int .u32 (h.square : Int), .int .u32 (h.ahead : Int)] 56)).drew) (B + 1) g ∧
    Bx ((((w.alloc (.cells #[.int .u32 (f.p : Int), .int .u32 (f.root : Int), .int .u32 (f.neg : Int), .int .u32 (f.square : Int), .int .u32 (f.ahead : Int)] 56)).alloc (.cells #[.int .u32 (g.p : Int), .int .u32 (g.root : Int), .int .u32 (g.neg : Int), .int .u32 (g.square : Int), .int .u32 (g.ahead : Int)] 56)).alloc (.cells #[.int .u32 (h.p : Int), .int .u32 (h.root : Int), .int .u32 (h.neg : Int), .int .u32 (h.square : Int), .int .u32 (h.ahead : Int)] 56)).drew) (B + 1 + 1) h ∧ Ext w ((((w.alloc (.cells #[.int .u32 (f.p : Int), .int .u32 (f.root : Int), .int .u32 (f.neg : Int), .int .u32 (f.square : Int), .int .u32 (f.ahead : Int)] 56)).alloc (.cells #[.int .u32 (g.p : Int), .int .u32 (g.root : Int), .int .u32 (g.neg : Int), .int .u32 (g.square : Int), .int .u32 (g.ahead : Int)] 56)).alloc (.cells #[.int .u32 (h.p : Int), .int .u32 (h.root : Int), .int .u32 (h.neg : Int), .int .u32 (h.square : Int), .int .u32 (h.ahead : Int)] 56)).drew) := by
  subst hB
  have h1 := Bx.new w f
  have h2 := Bx.new (w.alloc (.cells #[.int .u32 (f.p : Int), .int .u32 (f.root : Int), .int .u32 (f.neg : Int), .int .u32 (f.square : Int), .int .u32 (f.ahead : Int)] 56)) g
  have h3 := Bx.new ((w.alloc (.cells #[.int .u32 (f.p : Int), .int .u32 (f.root : Int), .int .u32 (f.neg : Int), .int .u32 (f.square : Int), .int .u32 (f.ahead : Int)] 56)).alloc (.cells #[.int .u32 (g.p : Int), .int .u32 (g.root : Int), .int .u32 (g.neg : Int), .int .u32 (g.square : Int), .int .u32 (g.ahead : Int)] 56)) h
  have s1 : (w.alloc (.cells #[.int .u32 (f.p : Int), .int .u32 (f.root : Int), .int .u32 (f.neg : Int), .int .u32 (f.square : Int), .int .u32 (f.ahead : Int)] 56)).heap.size = w.heap.size + 1 := by simp
  have s2 : ((w.alloc (.cells #[.int .u32 (f.p : Int), .int .u32 (f.root : Int), .int .u32 (f.neg : Int), .int .u32 (f.square : Int), .int .u32 (f.ahead : Int)] 56)).alloc (.cells #[.int .u32 (g.p : Int), .int .u32 (g.root : Int), .int .u32 (g.neg : Int), .int .u32 (g.square : Int), .int .u32 (g.ahead : Int)] 56)).heap.size = w.heap.size + 1 + 1 := by simp
  rw [s1] at h2
  rw [s2] at h3
  exact ⟨(h1.ext (((Ext.refl _).alloc _).alloc _)).ext ((Ext.refl _).drew), (h2.ext ((Ext.refl _).alloc _)).ext ((Ext.refl _).drew), h3.ext ((Ext.refl _).drew), (((((Ext.refl w).alloc _).alloc _).alloc _).drew)⟩

set_option maxRecDepth 100000 in
set_option maxHeartbeats 4000000 in
theorem join_calls (w : World) (hg : Gl w) (N x y z : Nat) (hx : N % F0.p = x) (hy : N % F1.p = y) (hz : N % F2.p = z) (hN : N < F0.p * F1.p * F2.p) :
    Calls Tryd.prog 35 #[.int .u32 (x : Nat), .int .u32 (y : Nat), .int .u32 (z : Nat)] w fun e w' => e = .returned (.agg #[.int .u32 (N % 4294967296 : Nat), .int .u32 (N / 4294967296 % 4294967296 : Nat), .int .u32 (N / 18446744073709551616 % 4294967296 : Nat)]) ∧ Ext w w' := by
  obtain ⟨hw0, ⟨a0, a1, a2, a3, a4⟩, ⟨b0, b1, b2, b3, b4⟩, ⟨c0, c1, c2, c3, c4⟩⟩ := hg
  have HJ := Lib.hid (join_math N x y z hx hy hz hN)
  have G0 := F0_fld.good
  have G1 := F1_fld.good
  have G2 := F2_fld.good
  have hx1 : x < F0.p := by rw [← hx]; exact Nat.mod_lt _ (by decide)
  have hy1 : y < F1.p := by rw [← hy]; exact Nat.mod_lt _ (by decide)
  have hz1 : z < F2.p := by rw [← hz]; exact Nat.mod_lt _ (by decide)
  have hN2 : N < 1237940039285380274899124224 := Nat.lt_trans hN (by decide)
  clear hx hy hz hN
  generalize F0 = f at *
  generalize F1 = g at *
  generalize F2 = h at *
  have p0 := G0.p1
  have p1 := G1.p1
  have p2 := G2.p1
  have q1 := G1.p0
  have q2 := G2.p0
  simp only [Nat.zero_add] at a0 a1 a2 a3 a4
  have b1 : w.cell? ⟨0, 6, none⟩ = _ := b1
  have b2 : w.cell? ⟨0, 7, none⟩ = _ := b2
  have b3 : w.cell? ⟨0, 8, none⟩ = _ := b3
  have b4 : w.cell? ⟨0, 9, none⟩ = _ := b4
  have c1 : w.cell? ⟨0, 11, none⟩ = _ := c1
  have c2 : w.cell? ⟨0, 12, none⟩ = _ := c2
  have c3 : w.cell? ⟨0, 13, none⟩ = _ := c3
  have c4 : w.cell? ⟨0, 14, none⟩ = _ := c4
  obtain ⟨n0, hn0⟩ : ∃ n0, N % 4294967296 = n0 := ⟨_, rfl⟩
  obtain ⟨n1, hn1⟩ : ∃ n1, N / 4294967296 % 4294967296 = n1 := ⟨_, rfl⟩
  obtain ⟨n2, hn2⟩ : ∃ n2, N / 18446744073709551616 % 4294967296 = n2 := ⟨_, rfl⟩
  rw [hn0, hn1, hn2]
  have HN0 := Lib.hid hn0
  have HN1 := Lib.hid hn1
  have HN2 := Lib.hid hn2
  clear hn0 hn1 hn2
  go_enter Tryd.func35, Tryd.ntmps35
  go_upto_region 1 with (fail)
  have hE0 : Ext w (w.alloc (.cells #[.int .u32 0, .int .u32 0, .int .u32 0] 52)) := (Ext.refl w).alloc _
  go_cut [7, 8, 9] from 16 to 21 (fun s7 s8 s9 wx => ∃ (B7 B8 B9 : Nat), s7 = .pointer (some ⟨B7, 0, none⟩) ∧ s8 = .pointer (some ⟨B8, 0, none⟩) ∧ s9 = .pointer (some ⟨B9, 0, none⟩) ∧ Bx wx B7 f ∧ Bx wx B8 g ∧ Bx wx B9 h ∧ w.heap.size ≠ B7 ∧ w.heap.size ≠ B8 ∧ w.heap.size ≠ B9 ∧ Ext (w.alloc (.cells #[.int .u32 0, .int .u32 0, .int .u32 0] 52)) wx)
  case first =>
    have hsz : (w.alloc (.cells #[.int .u32 0, .int .u32 0, .int .u32 0] 52)).heap.size = w.heap.size + 1 := by simp
    go_region
    all_goals
      (go_wp2_with (fail)
       go_meet
       first
        | exact ⟨_, _, _, rfl, rfl, rfl, (three _ (w.heap.size + 1) hsz f g h).1, (three _ (w.heap.size + 1) hsz f g h).2.1, (three _ (w.heap.size + 1) hsz f g h).2.2.1, by omega, by omega, by omega, (three _ (w.heap.size + 1) hsz f g h).2.2.2⟩
        | exact ⟨_, _, _, rfl, rfl, rfl, (three _ (w.heap.size + 1) hsz f h g).1, (three _ (w.heap.size + 1) hsz f h g).2.2.1, (three _ (w.heap.size + 1) hsz f h g).2.1, by omega, by omega, by omega, (three _ (w.heap.size + 1) hsz f h g).2.2.2⟩
        | exact ⟨_, _, _, rfl, rfl, rfl, (three _ (w.heap.size + 1) hsz g f h).2.1, (three _ (w.heap.size + 1) hsz g f h).1, (three _ (w.heap.size + 1) hsz g f h).2.2.1, by omega, by omega, by omega, (three _ (w.heap.size + 1) hsz g f h).2.2.2⟩
        | exact ⟨_, _, _, rfl, rfl, rfl, (three _ (w.heap.size + 1) hsz g h f).2.2.1, (three _ (w.heap.size + 1) hsz g h f).1, (three _ (w.heap.size + 1) hsz g h f).2.1, by omega, by omega, by omega, (three _ (w.heap.size + 1) hsz g h f).2.2.2⟩
        | exact ⟨_, _, _, rfl, rfl, rfl, (three _ (w.heap.size + 1) hsz h f g).2.1, (three _ (w.heap.size + 1) hsz h f g).2.2.1, (three _ (w.heap.size + 1) hsz h f g).1, by omega, by omega, by omega, (three _ (w.heap.size + 1) hsz h f g).2.2.2⟩
        | exact ⟨_, _, _, rfl, rfl, rfl, (three _ (w.heap.size + 1) hsz h g f).2.2.1, (three _ (w.heap.size + 1) hsz h g f).2.1, (three _ (w.heap.size + 1) hsz h g f).1, by omega, by omega, by omega, (three _ (w.heap.size + 1) hsz h g f).2.2.2⟩)
  case rest =>
    obtain ⟨B7, B8, B9, rfl, rfl, rfl, hX7, hX8, hX9, hn7, hn8, hn9, hE⟩ := hcut
    have hE0' := hE0
    have r0 : (w.alloc (.cells #[.int .u32 0, .int .u32 0, .int .u32 0] 52)).cell? ⟨w.heap.size, 0, none⟩ = some (.int .u32 0) := by go_simp
    have r1 : (w.alloc (.cells #[.int .u32 0, .int .u32 0, .int .u32 0] 52)).cell? ⟨w.heap.size, 1, none⟩ = some (.int .u32 0) := by go_simp
    have r2 : (w.alloc (.cells #[.int .u32 0, .int .u32 0, .int .u32 0] 52)).cell? ⟨w.heap.size, 2, none⟩ = some (.int .u32 0) := by go_simp
    have f0 : (w.alloc (.cells #[.int .u32 0, .int .u32 0, .int .u32 0] 52)).frozen? ⟨w.heap.size, 0, none⟩ = false := by go_simp
    have f1 : (w.alloc (.cells #[.int .u32 0, .int .u32 0, .int .u32 0] 52)).frozen? ⟨w.heap.size, 1, none⟩ = false := by go_simp
    have f2 : (w.alloc (.cells #[.int .u32 0, .int .u32 0, .int .u32 0] 52)).frozen? ⟨w.heap.size, 2, none⟩ = false := by go_simp
    generalize w.alloc (.cells #[.int .u32 0, .int .u32 0, .int .u32 0] 52) = w1 at *
    clear a0 a1 a2 a3 a4 b0 b1 b2 b3 b4 c0 c1 c2 c3 c4 hE0'
    -- the second digit
    obtain ⟨xm, hxm⟩ : ∃ xm, x % g.p = xm := ⟨_, rfl⟩
    have hxmp : xm < g.p := by rw [← hxm]; exact Nat.mod_lt _ (by omega)
    have hmi : (x : Int) % (g.p : Int) = (xm : Int) := by rw [← hxm, Int.natCast_emod]
    have hmt : ((x : Int)).tmod (g.p : Int) = (xm : Int) := by rw [Int.tmod_eq_emod_of_nonneg (by omega)]; exact hmi
    have hgz : ¬ ((g.p : Int) = 0) := by omega
    have hgz2 : ¬ (g.p = 0) := by omega
    have hgz3 : ((g.p : Int) == 0) = false := by rw [beq_eq_false_iff_ne]; omega
    have hxw : IntKind.u32.wrap (xm : Int) = (xm : Int) := by rw [IntKind.wrap_u32]; omega
    obtain ⟨s1, hs1⟩ : ∃ s1, (y + g.p - xm) % g.p = s1 := ⟨_, rfl⟩
    have hs1p : s1 < g.p := by rw [← hs1]; exact Nat.mod_lt _ (by omega)
    have hSub := Lib.hid (fun W => sub_calls W g G1 y xm hy1 hxmp)
    rw [hs1] at hSub
    have hga := G1.ab
    have hMul := Lib.hid (fun W => mul_calls W g G1 s1 g.ahead (by omega) (by omega) (lt_prod (by omega) hga))
    obtain ⟨v, hv⟩ : ∃ v, mm g s1 g.ahead = v := ⟨_, rfl⟩
    have hvp : v < g.p := by rw [← hv]; exact mm_lt g G1 _ _
    rw [hv] at hMul
    have HV : Hid (v = mm g ((y + g.p - x % g.p) % g.p) g.ahead) := by rw [Hid, hxm, hs1, hv]
    clear hxm hs1 hv
    have hS2 : (B8 < wc.drew.heap.size ∧ wc.drew.cell? ⟨B8, 0, none⟩ = some (.int .u32 (g.p : Int)) ∧ wc.drew.cell? ⟨B8, 1, none⟩ = some (.int .u32 (g.root : Int)) ∧ wc.drew.cell? ⟨B8, 2, none⟩ = some (.int .u32 (g.neg : Int)) ∧ wc.drew.cell? ⟨B8, 3, none⟩ = some (.int .u32 (g.square : Int)) ∧ wc.drew.cell? ⟨B8, 4, none⟩ = some (.int .u32 (g.ahead : Int))) := hX8
    go_wp2_with (fail)
    go_region_held3 (fun X => (B8 < X.heap.size ∧ X.cell? ⟨B8, 0, none⟩ = some (.int .u32 (g.p : Int)) ∧ X.cell? ⟨B8, 1, none⟩ = some (.int .u32 (g.root : Int)) ∧ X.cell? ⟨B8, 2, none⟩ = some (.int .u32 (g.neg : Int)) ∧ X.cell? ⟨B8, 3, none⟩ = some (.int .u32 (g.square : Int)) ∧ X.cell? ⟨B8, 4, none⟩ = some (.int .u32 (g.ahead : Int))))
      (first
        | exact hS2
        | assumption
        | exact keep5 (by assumption) (by assumption))
      (first
        | (go_at_call 52; ((with_reducible refine (hSub.out _).mono ?_); rintro e w3 ⟨rfl, hB3⟩))
        | (go_at_call 43; ((with_reducible refine (hMul.out _).mono ?_); rintro e w4 ⟨rfl, hB4⟩)))
    have hE4 : Ext wc w4 := (drawn hB3).below hB4
    clear hB3 hB4 hS2 hSub hMul hmi hmt hgz hgz2 hgz3 hxw
    replace hX7 := hX7.ext hE4
    replace hX8 := hX8.ext hE4
    replace hX9 := hX9.ext hE4
    replace hE := hE.below hE4
    -- low
    obtain ⟨fv, hfv⟩ : ∃ fv, f.p * v = fv := ⟨_, rfl⟩
    have hfvi : (f.p : Int) * (v : Int) = (fv : Int) := by rw [← hfv, Int.natCast_mul]
    have hfvb : fv < 1152921504606846976 := by rw [← hfv]; exact Nat.lt_of_le_of_lt (Nat.mul_le_mul (Nat.le_of_lt p0) (Nat.le_of_lt hvp)) (by omega)
    have hfvw : IntKind.u64.wrap (fv : Int) = (fv : Int) := by rw [IntKind.wrap_u64]; omega
    obtain ⟨low, hlow⟩ : ∃ low, fv + x = low := ⟨_, rfl⟩
    have hlowi : (fv : Int) + (x : Int) = (low : Int) := by omega
    have hloww : IntKind.u64.wrap (low : Int) = (low : Int) := by rw [IntKind.wrap_u64]; omega
    have HLW : Hid (low = f.p * v + x) := by rw [Hid, hfv, hlow]
    have hlowb : low < 2305843009213693952 := by omega
    obtain ⟨d0, d1, d2, d3, d4, d5⟩ := id hX7
    clear hfv hlow
    have hpw : IntKind.u64.wrap (f.p : Int) = (f.p : Int) := by rw [IntKind.wrap_u64]; omega
    have hvw : IntKind.u64.wrap (v : Int) = (v : Int) := by rw [IntKind.wrap_u64]; omega
    have hxw : IntKind.u64.wrap (x : Int) = (x : Int) := by rw [IntKind.wrap_u64]; omega
    go_upto_region 4 with (fail)
    -- the third digit
    clear hfvi hlowi hpw hvw hxw d0 d1 d2 d3 d4 d5
    obtain ⟨lm, hlm⟩ : ∃ lm, low % h.p = lm := ⟨_, rfl⟩
    have hlmp : lm < h.p := by rw [← hlm]; exact Nat.mod_lt _ (by omega)
    have hmi : (low : Int) % (h.p : Int) = (lm : Int) := by rw [← hlm, Int.natCast_emod]
    have hmt : ((low : Int)).tmod (h.p : Int) = (lm : Int) := by rw [Int.tmod_eq_emod_of_nonneg (by omega)]; exact hmi
    have hgz : ¬ ((h.p : Int) = 0) := by omega
    have hgz2 : ¬ (h.p = 0) := by omega
    have hgz3 : ((h.p : Int) == 0) = false := by rw [beq_eq_false_iff_ne]; omega
    have hxw : IntKind.u32.wrap (lm : Int) = (lm : Int) := by rw [IntKind.wrap_u32]; omega
    have hxw2 : IntKind.u64.wrap (lm : Int) = (lm : Int) := by rw [IntKind.wrap_u64]; omega
    have hhw : IntKind.u64.wrap (h.p : Int) = (h.p : Int) := by rw [IntKind.wrap_u64]; omega
    obtain ⟨s2, hs2⟩ : ∃ s2, (z + h.p - lm) % h.p = s2 := ⟨_, rfl⟩
    have hs2p : s2 < h.p := by rw [← hs2]; exact Nat.mod_lt _ (by omega)
    have hSub := Lib.hid (fun W => sub_calls W h G2 z lm hz1 hlmp)
    rw [hs2] at hSub
    have hga2 := G2.ab
    have hMul := Lib.hid (fun W => mul_calls W h G2 s2 h.ahead (by omega) (by omega) (lt_prod (by omega) hga2))
    obtain ⟨wv, hwv⟩ : ∃ wv, mm h s2 h.ahead = wv := ⟨_, rfl⟩
    have hwvp : wv < h.p := by rw [← hwv]; exact mm_lt h G2 _ _
    rw [hwv] at hMul
    have HW : Hid (wv = mm h ((z + h.p - low % h.p) % h.p) h.ahead) := by rw [Hid, hlm, hs2, hwv]
    clear hlm hs2 hwv
    have hS4 : (B9 < w4.drew.heap.size ∧ w4.drew.cell? ⟨B9, 0, none⟩ = some (.int .u32 (h.p : Int)) ∧ w4.drew.cell? ⟨B9, 1, none⟩ = some (.int .u32 (h.root : Int)) ∧ w4.drew.cell? ⟨B9, 2, none⟩ = some (.int .u32 (h.neg : Int)) ∧ w4.drew.cell? ⟨B9, 3, none⟩ = some (.int .u32 (h.square : Int)) ∧ w4.drew.cell? ⟨B9, 4, none⟩ = some (.int .u32 (h.ahead : Int))) := hX9
    go_region_held3 (fun X => (B9 < X.heap.size ∧ X.cell? ⟨B9, 0, none⟩ = some (.int .u32 (h.p : Int)) ∧ X.cell? ⟨B9, 1, none⟩ = some (.int .u32 (h.root : Int)) ∧ X.cell? ⟨B9, 2, none⟩ = some (.int .u32 (h.neg : Int)) ∧ X.cell? ⟨B9, 3, none⟩ = some (.int .u32 (h.square : Int)) ∧ X.cell? ⟨B9, 4, none⟩ = some (.int .u32 (h.ahead : Int))))
      (first
        | exact hS4
        | assumption
        | exact keep5 (by assumption) (by assumption))
      (first
        | (go_at_call 52; ((with_reducible refine (hSub.out _).mono ?_); rintro e w5 ⟨rfl, hB5⟩))
        | (go_at_call 43; ((with_reducible refine (hMul.out _).mono ?_); rintro e w6 ⟨rfl, hB6⟩)))
    have hE6 : Ext w4 w6 := (drawn hB5).below hB6
    clear hB5 hB6 hS4 hSub hMul hmi hmt hgz hgz2 hgz3 hxw hxw2 hX9
    replace hX7 := hX7.ext hE6
    replace hX8 := hX8.ext hE6
    replace hE := hE.below hE6
    -- all together
    obtain ⟨HJ1, _⟩ := HJ.out v low wv HV.out HLW.out HW.out
    obtain ⟨M, hM⟩ : ∃ M, f.p * g.p = M := ⟨_, rfl⟩
    have hMb : M < 1152921504606846977 := by rw [← hM]; exact Nat.lt_of_le_of_lt (Nat.mul_le_mul (Nat.le_of_lt p0) (Nat.le_of_lt p1)) (by omega)
    have hMi : (f.p : Int) * (g.p : Int) = (M : Int) := by rw [← hM, Int.natCast_mul]
    have hMw : IntKind.u64.wrap (M : Int) = (M : Int) := by rw [IntKind.wrap_u64]; omega
    have hpw : IntKind.u64.wrap (f.p : Int) = (f.p : Int) := by rw [IntKind.wrap_u64]; omega
    have hgw : IntKind.u64.wrap (g.p : Int) = (g.p : Int) := by rw [IntKind.wrap_u64]; omega
    have hww : IntKind.u64.wrap (wv : Int) = (wv : Int) := by rw [IntKind.wrap_u64]; omega
    have hM64 := Lib.hid (fun W => mul64_calls M wv (by omega) (by omega) W)
    rw [hM] at HJ1
    obtain ⟨T, hT⟩ : ∃ T, M * wv = T := ⟨_, rfl⟩
    rw [hT] at HJ1 hM64
    obtain ⟨hi, hhi⟩ : ∃ hi, T / 18446744073709551616 = hi := ⟨_, rfl⟩
    obtain ⟨lo, hlo⟩ : ∃ lo, T % 18446744073709551616 = lo := ⟨_, rfl⟩
    rw [hhi, hlo] at hM64
    have hadd := fun w => run_add lo low w
    obtain ⟨l1, hl1⟩ : ∃ l1, (lo + low) % 18446744073709551616 = l1 := ⟨_, rfl⟩
    obtain ⟨k1, hk1⟩ : ∃ k1, (lo + low) / 18446744073709551616 = k1 := ⟨_, rfl⟩
    rw [hl1, hk1] at hadd
    have hn0 := HN0.out
    have hn1 := HN1.out
    have hn2 := HN2.out
    have e0 : l1 % 4294967296 = n0 := by omega
    have e1 : l1 / 4294967296 = n1 := by omega
    have e2 : hi + k1 = n2 := by omega
    have bl : l1 < 18446744073709551616 := by omega
    have d0 : n0 < 4294967296 := by omega
    have d1 : n1 < 4294967296 := by omega
    have d2 : n2 < 4294967296 := by omega
    have bhi : hi ≤ n2 := by omega
    have bk1 : k1 ≤ n2 := by omega
    have i0 : (l1 : Int) % 4294967296 = (n0 : Int) := by omega
    have i0w : IntKind.u32.wrap (l1 : Int) = (n0 : Int) := by rw [IntKind.wrap_u32]; omega
    have i1 : (l1 : Int) / 4294967296 = (n1 : Int) := by omega
    have i1w : IntKind.u32.wrap (n1 : Int) = (n1 : Int) := by rw [IntKind.wrap_u32]; omega
    have i1m : (n1 : Int) % 4294967296 = (n1 : Int) := by omega
    have i2 : (hi : Int) + (k1 : Int) = (n2 : Int) := by omega
    have i2w : IntKind.u32.wrap (n2 : Int) = (n2 : Int) := by rw [IntKind.wrap_u32]; omega
    have i2x : IntKind.u64.wrap (n2 : Int) = (n2 : Int) := by rw [IntKind.wrap_u64]; omega
    have i2m : (n2 : Int) % 4294967296 = (n2 : Int) := by omega
    clear hM hT hhi hlo hl1 hk1 hn0 hn1 hn2 e0 e1 e2 HJ1
    obtain ⟨d0, d1, d2, d3, d4, d5⟩ := id hX7
    obtain ⟨e0, e1, e2, e3, e4, e5⟩ := id hX8
    go_wp2_with (fail)
    refine (hM64.out _).mono ?_
    rintro e w7 ⟨rfl, rfl⟩
    replace f0 := kept_free hE r0 f0
    replace f1 := kept_free hE r1 f1
    replace f2 := kept_free hE r2 f2
    replace r0 := kept_cell hE r0
    replace r1 := kept_cell hE r1
    replace r2 := kept_cell hE r2
    have hEw : Ext w w7 := hE0.below hE
    clear d0 d1 d2 d3 d4 d5 e0 e1 e2 e3 e4 e5 hX7 hX8 hE hM64
    go_wp2
    refine bodyPost_ret (v := .agg #[.int .u32 (n0 : Nat), .int .u32 (n1 : Nat), .int .u32 (n2 : Nat)]) ?_ rfl ⟨rfl, ?_⟩
    · simp [results, Tryd.results35, go_sem, *]
    · exact ((hEw.setCell (p := ⟨w.heap.size, 0, none⟩) (Nat.le_refl _) _).setCell (p := ⟨w.heap.size, 1, none⟩) (Nat.le_refl _) _).setCell (p := ⟨w.heap.size, 2, none⟩) (Nat.le_refl _) _
end Go.Proofs.YtofhpfmgopmcmaaDoor
