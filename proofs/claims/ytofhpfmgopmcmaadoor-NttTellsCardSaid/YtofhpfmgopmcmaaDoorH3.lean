/- Are two rows the same; sums of products of short rows. -/
import Derived.Test.YtofhpfmgopmcmaaDoorH2
import Derived.Laws.StructEq
import Derived.Laws.Cover2
import Derived.Laws.Tables
import Derived.Laws.Small
namespace Go.Proofs.YtofhpfmgopmcmaaDoor
open Go.RowKit
set_option linter.unusedVariables false
set_option maxHeartbeats 400000

theorem same_calls (w : World) (v u : Value) (xs ys : List Nat) (h : U w v xs) (g : U w u ys) :
    Calls Tryd.prog 24 #[v, u] w fun e w' => e = .returned (.bool (decide (xs = ys))) ∧ ∃ n, w' = w.drewN n := by
  obtain ⟨A, c, rfl, ⟨hc, hm⟩, hx, hr⟩ := h
  obtain ⟨A2, c2, rfl, ⟨hc2, hm2⟩, hx2, hr2⟩ := g
  by_cases hl : xs.length = ys.length
  · have hl1 : (((xs.length : Nat) : Int) != ((ys.length : Nat) : Int)) = false := by rw [bne_eq_false_iff_eq, hl]
    have HL := Lib.hid hl
    clear hl
    go_enter Tryd.func24, Tryd.ntmps24
    go_wp2
    go_loopw [5] (fun n wr => ∃ k : Nat, k ≤ xs.length ∧ n = .int .i64 k ∧ Hid (∀ j, j < k → lb xs j = lb ys j) ∧ ∃ m, wr = w.drewN m) (fun n _ => xs.length - (intOf n).toNat)
    case atStart => exact ⟨0, Nat.zero_le _, rfl, fun j h => by omega, 0, rfl⟩
    case round =>
      obtain ⟨k, hk, rfl, hz, m, rfl⟩ := hrel
      by_cases hlt : k < xs.length
      · obtain ⟨ad, rfl, hb, hcell⟩ := hr (by omega)
        obtain ⟨ad2, rfl, hb2, hcell2⟩ := hr2 (by have := HL.out; omega)
        have hc1 := hcell k hlt
        have hc3 := hcell2 k (by have := HL.out; omega)
        have hk2 : ((k : Nat) : Int) < ys.length := by have := HL.out; omega
        by_cases he : lb xs k = lb ys k
        · have ht : ((((lb xs k : Nat)) : Int) != ((lb ys k : Nat) : Int)) = false := by rw [bne_eq_false_iff_eq, he]
          have HX := Lib.hid he
          clear he
          go_wp2
          go_quiet (fail)
          go_wp2
          go_roundw
          case rel => exact ⟨k + 1, by omega, by go_num, fun j h1 => by
            rcases Nat.lt_or_ge j k with h3 | h3
            · exact hz.out j h3
            · have : j = k := by omega
              subst this; exact HX.out, _, rfl⟩
          case measure => simp [intOf]; omega
        · have ht : ((((lb xs k : Nat)) : Int) != ((lb ys k : Nat) : Int)) = true := by rw [bne_iff_ne]; omega
          have HX := Lib.hid he
          clear he
          have hf : decide (xs = ys) = false := decide_eq_false fun h => HX.out (by rw [h])
          have HF := Lib.hid hf
          clear hf
          go_wp2
          go_quiet (fail)
          go_wp2
          go_ret
          exact ⟨by rw [HF.out]; rfl, _, World.drewN_drewN _ _ _⟩
      · have hf : decide (xs = ys) = true := decide_eq_true (ext_lb HL.out fun j hj => hz.out j (by omega))
        have HF := Lib.hid hf
        clear hf
        go_wp2
        go_ret
        exact ⟨by rw [HF.out]; rfl, _, rfl⟩
  · have hl1 : (((xs.length : Nat) : Int) != ((ys.length : Nat) : Int)) = true := by rw [bne_iff_ne]; omega
    have hf : decide (xs = ys) = false := decide_eq_false fun h => hl (by rw [h])
    have HF := Lib.hid hf
    clear hl hf
    go_enter Tryd.func24, Tryd.ntmps24
    go_wp2
    go_ret
    exact ⟨by rw [HF.out]; rfl, 0, rfl⟩

/-- Two arrays of three limbs: are they the same. -/
theorem eq3 (a0 a1 a2 b0 b1 b2 : Int) (w : World) : (Op.equalIn 10000 52 (.agg #[.int .u32 a0, .int .u32 a1, .int .u32 a2]) (.agg #[.int .u32 b0, .int .u32 b1, .int .u32 b2])).run Tryd.prog w = .ok (a0 == b0 && (a1 == b1 && a2 == b2)) w := by
  have u3 := Tryd.underlying27
  have a3 := Tryd.isAgg27
  have z3 := Tryd.sizeOf27
  rw [show (10000 : Nat) = 9999 + 1 from rfl, Op.equalIn]
  simp only [Sem.run_bind, run_underlying Tryd.underlying52, Result.andThen_ok]
  simp only [Std.Legacy.Range.forIn_eq_forIn_range', Std.Legacy.Range.size, Nat.sub_zero, Nat.add_sub_cancel, Nat.div_one, List.range'_succ, List.range'_zero, List.forIn_cons, List.forIn_nil]
  go_simp
  by_cases h1 : a0 = b0 <;> by_cases h2 : a1 = b1 <;> by_cases h3 : a2 = b2 <;> simp [h1, h2, h3]

/-- A slice of three limbs each that reads as these numbers. -/
def U3 (w : World) (v : Value) (cs : List Nat) : Prop :=
  ∃ (A : Option Addr) (c : Nat), v = .slice A cs.length c ∧ (cs.length ≤ c ∧ cs.length ≤ 9223372036854775807) ∧
    (0 < cs.length → ∃ ad, A = some ad ∧ ad.block < w.heap.size ∧ ∀ j, j < cs.length * 3 → w.cell? (ad.add j) = some (.int .u32 (lb (fl cs) j : Nat)))
theorem U3.below {w w' : World} {v : Value} {cs : List Nat} (h : U3 w v cs) (hb : Below w.heap.size w w') : U3 w' v cs := by
  obtain ⟨A, c, rfl, hc, hr⟩ := h
  refine ⟨A, c, rfl, hc, fun h0 => ?_⟩
  obtain ⟨ad, hA, hbk, hcell⟩ := hr h0
  exact ⟨ad, hA, Nat.lt_of_lt_of_le hbk hb.size, fun j hj => (hb.cell (p := ad.add j) (by rw [addr_add_block]; exact hbk)).trans (hcell j hj)⟩
theorem U3.alloc {w : World} {v : Value} {xs : List Nat} (h : U3 w v xs) (o : Obj) : U3 (w.alloc o) v xs := U3.below h ((Ext.refl w).alloc o)
theorem U3.nil_ (w : World) (A : Option Addr) (c : Nat) : U3 w (.slice A 0 c) [] := ⟨A, c, rfl, ⟨Nat.zero_le _, Nat.zero_le _⟩, fun h => absurd h (by simp)⟩
theorem Own3.toU {w : World} {base g n c : Nat} {o : List Nat} (h : Own3 w base (.slice (some ⟨g, 0, none⟩) n c) o) : U3 w (.slice (some ⟨g, 0, none⟩) n c) o := by
  obtain ⟨e, h1, h2⟩ := h.caps
  subst e
  refine ⟨_, c, rfl, ⟨h1, by unfold maxLen at h2; omega⟩, fun h0 => ⟨_, rfl, h.block.2, fun j hj => ?_⟩⟩
  rw [addr_zero_add]; exact h.cell hj
theorem fl_inj {cs ds : List Nat} (hl : cs.length = ds.length) (h1 : ∀ x ∈ cs, x < 79228162514264337593543950336) (h2 : ∀ x ∈ ds, x < 79228162514264337593543950336) {m : Nat}
    (e0 : lb cs m % 4294967296 = lb ds m % 4294967296) (e1 : lb cs m / 4294967296 % 4294967296 = lb ds m / 4294967296 % 4294967296) (e2 : lb cs m / 18446744073709551616 % 4294967296 = lb ds m / 18446744073709551616 % 4294967296) : lb cs m = lb ds m := by
  have a := lb_lt_of (by decide) h1 m
  have b := lb_lt_of (by decide) h2 m
  omega

theorem addr_at (a : Addr) (n : Nat) (h : n ≠ 0) : a.add n = ⟨a.block, a.off + n, none⟩ := by unfold Addr.add; simp [h]
set_option maxRecDepth 100000 in
set_option maxHeartbeats 2000000 in
theorem sums_calls (w : World) (v u : Value) (xs ys : List Nat) (h : U3 w v xs) (g : U3 w u ys) (hx1 : ∀ x ∈ xs, x < 79228162514264337593543950336) (hy1 : ∀ x ∈ ys, x < 79228162514264337593543950336) :
    Calls Tryd.prog 18 #[v, u] w fun e w' => e = .returned (.bool (decide (xs = ys))) ∧ ∃ n, w' = w.drewN n := by
  obtain ⟨A, c, rfl, ⟨hc, hm⟩, hr⟩ := h
  obtain ⟨A2, c2, rfl, ⟨hc2, hm2⟩, hr2⟩ := g
  by_cases hl : xs.length = ys.length
  · have hl1 : (((xs.length : Nat) : Int) != ((ys.length : Nat) : Int)) = false := by rw [bne_eq_false_iff_eq, hl]
    have HL := Lib.hid hl
    have HX1 := Lib.hid hx1
    have HY1 := Lib.hid hy1
    clear hl hx1 hy1
    go_enter Tryd.func18, Tryd.ntmps18
    go_wp2
    go_loopw [5] (fun n wr => ∃ k : Nat, k ≤ xs.length ∧ n = .int .i64 k ∧ Hid (∀ j, j < k → lb xs j = lb ys j) ∧ ∃ m, wr = w.drewN m) (fun n _ => xs.length - (intOf n).toNat)
    case atStart => exact ⟨0, Nat.zero_le _, rfl, fun j h => by omega, 0, rfl⟩
    case round =>
      obtain ⟨k, hk, rfl, hz, m, rfl⟩ := hrel
      by_cases hlt : k < xs.length
      · obtain ⟨ad, rfl, hb, hcell⟩ := hr (by omega)
        obtain ⟨ad2, rfl, hb2, hcell2⟩ := hr2 (by have := HL.out; omega)
        have hk2 : ((k : Nat) : Int) < ys.length := by have := HL.out; omega
        have hk3 : k < ys.length := by have := HL.out; omega
        have p0 := hcell (k * 3) (by omega)
        have p1 := hcell (k * 3 + 1) (by omega)
        have p2 := hcell (k * 3 + 2) (by omega)
        have q0 := hcell2 (k * 3) (by omega)
        have q1 := hcell2 (k * 3 + 1) (by omega)
        have q2 := hcell2 (k * 3 + 2) (by omega)
        obtain ⟨l0, l1, l2⟩ := lb_fl xs k hlt
        obtain ⟨m0, m1, m2⟩ := lb_fl ys k hk3
        rw [l0] at p0
        rw [l1] at p1
        rw [l2] at p2
        rw [m0] at q0
        rw [m1] at q1
        rw [m2] at q2
        rw [← addr_add_add, addr_at _ 1 (by decide)] at p1 q1
        rw [← addr_add_add, addr_at _ 2 (by decide)] at p2 q2
        have HI := Lib.hid (fun a b c => fl_inj HL.out HX1.out HY1.out (m := k) a b c)
        clear l0 l1 l2 m0 m1 m2 hcell hcell2
        obtain ⟨x0, e0⟩ : ∃ x0, lb xs k % 4294967296 = x0 := ⟨_, rfl⟩
        obtain ⟨x1, e1⟩ : ∃ x1, lb xs k / 4294967296 % 4294967296 = x1 := ⟨_, rfl⟩
        obtain ⟨x2, e2⟩ : ∃ x2, lb xs k / 18446744073709551616 % 4294967296 = x2 := ⟨_, rfl⟩
        obtain ⟨y0, d0⟩ : ∃ y0, lb ys k % 4294967296 = y0 := ⟨_, rfl⟩
        obtain ⟨y1, d1⟩ : ∃ y1, lb ys k / 4294967296 % 4294967296 = y1 := ⟨_, rfl⟩
        obtain ⟨y2, d2⟩ : ∃ y2, lb ys k / 18446744073709551616 % 4294967296 = y2 := ⟨_, rfl⟩
        rw [e0] at p0 HI
        rw [e1] at p1 HI
        rw [e2] at p2 HI
        rw [d0] at q0 HI
        rw [d1] at q1 HI
        rw [d2] at q2 HI
        have hq := fun w => eq3 x0 x1 x2 y0 y1 y2 w
        by_cases he : x0 = y0 ∧ x1 = y1 ∧ x2 = y2
        · obtain ⟨rfl, rfl, rfl⟩ := he
          have hb : (((x0 : Nat) : Int) == ((x0 : Nat) : Int) && (((x1 : Nat) : Int) == ((x1 : Nat) : Int) && ((x2 : Nat) : Int) == ((x2 : Nat) : Int))) = true := by simp
          rw [hb] at hq
          have HK : Hid (lb xs k = lb ys k) := HI.out rfl rfl rfl
          clear e0 e1 e2 d0 d1 d2 HI hb
          go_wp2
          go_quiet (fail)
          go_wp2
          go_roundw
          case rel => exact ⟨k + 1, by omega, by go_num, fun j h1 => by
            rcases Nat.lt_or_ge j k with h3 | h3
            · exact hz.out j h3
            · have : j = k := by omega
              subst this; exact HK.out, _, rfl⟩
          case measure => simp [intOf]; omega
        · have hb : (((x0 : Nat) : Int) == ((y0 : Nat) : Int) && (((x1 : Nat) : Int) == ((y1 : Nat) : Int) && ((x2 : Nat) : Int) == ((y2 : Nat) : Int))) = false := by
            rw [Bool.eq_false_iff]
            intro h
            simp only [Bool.and_eq_true, beq_iff_eq] at h
            exact he ⟨by omega, by omega, by omega⟩
          rw [hb] at hq
          have hf : decide (xs = ys) = false := decide_eq_false fun h => he (by subst h; exact ⟨e0.symm.trans d0, e1.symm.trans d1, e2.symm.trans d2⟩)
          have HF := Lib.hid hf
          clear e0 e1 e2 d0 d1 d2 HI hb he hf
          go_wp2
          go_quiet (fail)
          go_wp2
          go_ret
          exact ⟨by rw [HF.out]; rfl, _, World.drewN_drewN _ _ _⟩
      · have hf : decide (xs = ys) = true := decide_eq_true (ext_lb HL.out fun j hj => hz.out j (by omega))
        have HF := Lib.hid hf
        clear hf
        go_wp2
        go_ret
        exact ⟨by rw [HF.out]; rfl, _, rfl⟩
  · have hl1 : (((xs.length : Nat) : Int) != ((ys.length : Nat) : Int)) = true := by rw [bne_iff_ne]; omega
    have hf : decide (xs = ys) = false := decide_eq_false fun h => hl (by rw [h])
    have HF := Lib.hid hf
    clear hl hf
    go_enter Tryd.func18, Tryd.ntmps18
    go_wp2
    go_ret
    exact ⟨by rw [HF.out]; rfl, 0, rfl⟩
end Go.Proofs.YtofhpfmgopmcmaaDoor
