/- A row of digits is written. -/
import Derived.Test.YtfkcdmbiihkiiaaGreatDoorBax
import Derived.Test.YtfkcdmbiihkiiaaGreatDoorBaq
import Derived.Deep.RegionLaw
import Derived.Maps.AppendAt

namespace Go.Proofs.YtfkcdmbiihkiiaaGreatDoor
open Go.RowKit
set_option linter.unusedVariables false
set_option maxHeartbeats 400000

theorem But.setNew {g : Nat} {a b : World} (h : But g a b) {B : Nat} (hB : a.heap.size ≤ B) (j : Nat) (v : Value) : But g a (b.setCell ⟨B, j, none⟩ v) :=
  ⟨h.os, h.tape, h.output, by have := h.size; simp [World.setCell]; exact this, fun k hk hne => (heap_setCell_other b ⟨B, j, none⟩ k v (by show k ≠ B; omega)).trans (h.block k hk hne)⟩
theorem SBx.other {w : World} {B b n p : Nat} (h : SBx w B b n p) {q : Nat} (hne : B ≠ q) (j : Nat) (v : Value) : SBx (w.setCell ⟨q, j, none⟩ v) B b n p := by
  obtain ⟨h0, h1, h2, h3⟩ := h
  have hc : ∀ i, (w.setCell ⟨q, j, none⟩ v).cell? ⟨B, i, none⟩ = w.cell? ⟨B, i, none⟩ := fun i => World.cell?_of_block (heap_setCell_other w ⟨q, j, none⟩ B v hne)
  exact ⟨by simpa [World.setCell] using h0, by rw [hc]; exact h1, by rw [hc]; exact h2, by rw [hc]; exact h3⟩
theorem SBx.but {w w' : World} {B b n p g : Nat} (h : SBx w B b n p) (hE : But g w w') (hne : B ≠ g) : SBx w' B b n p := by
  obtain ⟨h0, h1, h2, h3⟩ := h
  have hc : ∀ i, w'.cell? ⟨B, i, none⟩ = w.cell? ⟨B, i, none⟩ := fun i => hE.cell h0 hne
  exact ⟨Nat.lt_of_lt_of_le h0 hE.size, by rw [hc]; exact h1, by rw [hc]; exact h2, by rw [hc]; exact h3⟩
theorem U.setBy {T : TypeId} {w : World} {v : Value} {xs : List Nat} {g : Nat} {o : List Nat} (h : U w v xs) (hB : By T w g o) (j : Nat) (x : Value) : U (w.setCell ⟨g, j, none⟩ x) v xs := h.butBy hB ((But.refl g w).setCell j x)

set_option maxRecDepth 100000 in
theorem digits_at (d : Nat) (h : d < 36) (h2 : d < (⟨#[48, 49, 50, 51, 52, 53, 54, 55, 56, 57, 97, 98, 99, 100, 101, 102, 103, 104, 105, 106, 107, 108, 109, 110, 111, 112, 113, 114, 115, 116, 117, 118, 119, 120, 121, 122]⟩ : ByteArray).size) : ((⟨#[48, 49, 50, 51, 52, 53, 54, 55, 56, 57, 97, 98, 99, 100, 101, 102, 103, 104, 105, 106, 107, 108, 109, 110, 111, 112, 113, 114, 115, 116, 117, 118, 119, 120, 121, 122]⟩ : ByteArray)[d]'h2).toNat = digB d := by
  have : ∀ k : Fin 36, ∀ h3 : k.1 < (⟨#[48, 49, 50, 51, 52, 53, 54, 55, 56, 57, 97, 98, 99, 100, 101, 102, 103, 104, 105, 106, 107, 108, 109, 110, 111, 112, 113, 114, 115, 116, 117, 118, 119, 120, 121, 122]⟩ : ByteArray).size, ((⟨#[48, 49, 50, 51, 52, 53, 54, 55, 56, 57, 97, 98, 99, 100, 101, 102, 103, 104, 105, 106, 107, 108, 109, 110, 111, 112, 113, 114, 115, 116, 117, 118, 119, 120, 121, 122]⟩ : ByteArray)[k.1]'h3).toNat = digB k.1 := by decide
  exact this ⟨d, h⟩ h2
theorem infoU8 : (Tryz.prog.info? 5).map (·.size) = some 1 := by kernel_rfl
theorem step_copyY {ops : Array Oper} {oo : Oper} {a : Act} {w : World} {K : Act → World → Prop} {Q : Exit → Act → World → Prop} {E : Prop} (hgd : oo.guard = none) (d s : Operand)
    (ho : oo.op = .call { callee := .builtin .copy, args := #[d, s], argTypes := #[85, 85] }) (g off dLen dCap sg sCap : Nat)
    (hd : a.eval d = .slice (some ⟨g, off, none⟩) dLen dCap) (hs : a.eval s = .slice (some ⟨sg, 0, none⟩) dLen sCap) (o c : List Nat) (T2 : TypeId) (hB : By 5 w g o) (hC : By T2 w sg c)
    (hl : dLen ≤ c.length) (hfit : off + dLen ≤ o.length) (h : ∀ w', Hid (By 5 w' g (splice o off (c.take dLen))) → But g w w' → K (a.put oo.dst (goInt dLen)) w') :
    if Region.wanted oo (yielded ops a.tmps) = true then Oper.wp Tryz.prog oo a w K Q else E := by
  have hw : Region.wanted oo (yielded ops a.tmps) = true := by simp [Region.wanted, hgd]
  rw [if_pos hw]
  have hcl : (c.take dLen).length = dLen := by rw [List.length_take]; omega
  have hrun := run_copy_row (P := Tryz.prog) w 85 85 oo.type 5 g off dLen dCap ⟨sg, 0, none⟩ dLen sCap (Bv o).toArray 5 (Bv (c.take dLen)) Tryz.underlying85 infoU8 hB (by rw [Bv_len, hcl]; exact (Nat.min_self _).symm)
    (fun j v hj => by
      have hjl : j < dLen := by
        have := (List.getElem?_eq_some_iff.1 hj).1
        rwa [Bv_len, hcl] at this
      rw [Bv_get _ (by rw [hcl]; exact hjl), lb_take hjl] at hj
      rw [addr_zero_add, hC.cell (by omega), ← hj]) (by rw [Bv_len, hcl]; simpa [Bv_len] using hfit) (by intro u hu; obtain ⟨z, _, rfl⟩ := List.mem_map.1 hu; rfl)
  unfold Oper.wp
  simp [execOp, ho, resolve, invoke, builtin, hd, hs, hrun, Result.andThen]
  rw [Bv_len, hcl]
  refine h _ ?_ ?_
  · show By _ _ _ _
    unfold By
    rw [setRow_heap w g _ _ _ _ hB, Bv_splice]
    simp [splice, Bv_len, hcl]
  · exact ⟨rfl, rfl, rfl, by simp, fun k hk hne => setRow_other w g k _ (fun e => hne (by rw [e]))⟩

set_option maxRecDepth 100000 in
set_option maxHeartbeats 4000000 in
theorem write_calls (w : World) (b n p : Nat) (hS : Sc b n p) (g off len cap : Nat) (pre mid post : List Nat) (hB : By 5 w g (pre ++ (mid ++ post))) (hpre : pre.length = off) (hmid : mid.length = len) (hcap : len ≤ cap) (hcm : cap ≤ 1000000000)
    (v : Value) (a0 : Nat) (hu : Un w v a0) (hl : (limbs a0).length ≤ 1000000) (ha : a0 < b ^ len) :
    Calls Tryz.prog 85 #[SV b n p, .slice (some ⟨g, off, none⟩) len cap, v] w fun e w' => e = .returned (.tuple #[]) ∧ By 5 w' g (pre ++ ((bdig b a0 len).map digB ++ post)) ∧ But g w w' := by
  have hn31 := hS.n32
  have hp2 := hS.p2
  have hn1 := hS.n1
  have hgl := hB.lt
  have HW : Hid (WrI b len a0 pre mid post len (pre ++ (mid ++ post)) a0) := ⟨Nat.le_refl _, by rw [List.take_of_length_le (by omega), List.drop_eq_nil_of_le (by rw [List.length_map, bdig_len]; omega), List.nil_append], by rw [Nat.sub_self, Nat.pow_zero, Nat.div_one]⟩
  have hSx : SBx ((w.alloc (.cells #[.int .u32 (b : Nat), .int .i64 (n : Nat), .int .u32 (p : Nat)] 80)).alloc (.cells #[.int .u8 0, .int .u8 0, .int .u8 0, .int .u8 0, .int .u8 0, .int .u8 0, .int .u8 0, .int .u8 0, .int .u8 0, .int .u8 0, .int .u8 0, .int .u8 0, .int .u8 0, .int .u8 0, .int .u8 0, .int .u8 0, .int .u8 0, .int .u8 0, .int .u8 0, .int .u8 0, .int .u8 0, .int .u8 0, .int .u8 0, .int .u8 0, .int .u8 0, .int .u8 0, .int .u8 0, .int .u8 0, .int .u8 0, .int .u8 0, .int .u8 0, .int .u8 0] 112)) w.heap.size b n p := (SBx.new w b n p).ext ((Ext.refl _).alloc _)
  have hC : By 112 ((w.alloc (.cells #[.int .u32 (b : Nat), .int .i64 (n : Nat), .int .u32 (p : Nat)] 80)).alloc (.cells #[.int .u8 0, .int .u8 0, .int .u8 0, .int .u8 0, .int .u8 0, .int .u8 0, .int .u8 0, .int .u8 0, .int .u8 0, .int .u8 0, .int .u8 0, .int .u8 0, .int .u8 0, .int .u8 0, .int .u8 0, .int .u8 0, .int .u8 0, .int .u8 0, .int .u8 0, .int .u8 0, .int .u8 0, .int .u8 0, .int .u8 0, .int .u8 0, .int .u8 0, .int .u8 0, .int .u8 0, .int .u8 0, .int .u8 0, .int .u8 0, .int .u8 0, .int .u8 0] 112)) (w.heap.size + 1) (List.replicate 32 0) := by unfold By; exact heap_alloc2_new w _ _
  have hE0 : Ext w ((w.alloc (.cells #[.int .u32 (b : Nat), .int .i64 (n : Nat), .int .u32 (p : Nat)] 80)).alloc (.cells #[.int .u8 0, .int .u8 0, .int .u8 0, .int .u8 0, .int .u8 0, .int .u8 0, .int .u8 0, .int .u8 0, .int .u8 0, .int .u8 0, .int .u8 0, .int .u8 0, .int .u8 0, .int .u8 0, .int .u8 0, .int .u8 0, .int .u8 0, .int .u8 0, .int .u8 0, .int .u8 0, .int .u8 0, .int .u8 0, .int .u8 0, .int .u8 0, .int .u8 0, .int .u8 0, .int .u8 0, .int .u8 0, .int .u8 0, .int .u8 0, .int .u8 0, .int .u8 0] 112)) := ((Ext.refl w).alloc _).alloc _
  have hB0 := hB.ext hE0
  have hu0 : Un _ v a0 := hu.below hE0
  have hbut := (But.refl g w).ext hE0
  go_enter Tryz.func85, Tryz.ntmps85
  go_wp2
  generalize ((w.alloc (.cells #[.int .u32 (b : Nat), .int .i64 (n : Nat), .int .u32 (p : Nat)] 80)).alloc (.cells #[.int .u8 0, .int .u8 0, .int .u8 0, .int .u8 0, .int .u8 0, .int .u8 0, .int .u8 0, .int .u8 0, .int .u8 0, .int .u8 0, .int .u8 0, .int .u8 0, .int .u8 0, .int .u8 0, .int .u8 0, .int .u8 0, .int .u8 0, .int .u8 0, .int .u8 0, .int .u8 0, .int .u8 0, .int .u8 0, .int .u8 0, .int .u8 0, .int .u8 0, .int .u8 0, .int .u8 0, .int .u8 0, .int .u8 0, .int .u8 0, .int .u8 0, .int .u8 0] 112)) = w1 at *
  go_loopw [1, 2] (fun t t2 wr => ∃ (m a : Nat) (o c : List Nat), t = .slice (some ⟨g, off, none⟩) m cap ∧ Hid (WrI b len a0 pre mid post m o a) ∧ Un wr t2 a ∧ a ≤ a0 ∧ By 5 wr g o ∧ SBx wr w.heap.size b n p ∧ c.length = 32 ∧ By 112 wr (w.heap.size + 1) c ∧ But g w wr) (fun t _ _ => match t with | .slice _ m _ => m | _ => 0)
  case atStart => exact ⟨len, a0, _, _, rfl, HW, hu0, Nat.le_refl _, hB0, hSx, by simp, hC, hbut⟩
  case round =>
    clear HW hu0 hB0 hSx hC hbut hE0 hu
    obtain ⟨m, a, o, c, rfl, HO, hu, hle, hB1, hSx, hcl, hC, hbut⟩ := hrel
    by_cases hm : m = 0
    · subst hm
      go_wp2
      refine bodyPost_end (results_none rfl _ _ _) rfl ⟨rfl, ?_, hbut⟩
      have hrow := HO.out.row
      rw [List.take_zero, List.nil_append, List.drop_zero] at hrow
      rw [← hrow]
      exact hB1
    · have hm1 : ((m : Int) > 0) := by omega
      obtain ⟨s0, s1, s2, s3⟩ := id hSx
      obtain ⟨q, hq⟩ : ∃ q, a / p = q := ⟨_, rfl⟩
      obtain ⟨r, hr⟩ : ∃ r, a % p = r := ⟨_, rfl⟩
      obtain ⟨k, hk⟩ : ∃ k, min n m = k := ⟨_, rfl⟩
      have hmin1 : (if (m : Int) < (n : Int) then (m : Int) else (n : Int)) = (k : Int) := by split <;> omega
      have hmin2 : (if m < n then (m : Int) else (n : Int)) = (k : Int) := by split <;> omega
      have hla : (limbs a).length ≤ 1000000 := Nat.le_trans (len_mono hle) hl
      go_wp2_with (go_at_call 115; refine (small_calls _ _ a p hu hla hS.fit (by omega) q r hq hr).mono ?_; rintro e w3 ⟨⟨u, rfl, hu3⟩, hE3⟩)
      replace hB1 := hB1.ext hE3
      replace hC := hC.ext hE3
      replace hSx := hSx.ext hE3
      replace hbut := hbut.ext hE3
      have HC0 := Lib.hid (CkI.start b k r c hcl)
      have hk0 : k ≤ 31 ∧ 1 ≤ k ∧ k ≤ m := by omega
      have hrp : r < 4294967296 := by rw [← hr]; exact Nat.lt_trans (Nat.mod_lt _ (by omega)) hS.fit
      clear hu hE3 s0 s1 s2 s3 hmin1 hmin2 hcl
      go_loopw [9, 8] (fun t s w4 => ∃ (j rs : Nat) (z : Int) (c : List Nat), j ≤ k ∧ t = .int .i64 z ∧ z = (j : Int) - 1 ∧ s = .int .u32 (rs : Nat) ∧ rs ≤ r ∧ Hid (CkI b k r j c rs) ∧ Un w4 u q ∧ By 5 w4 g o ∧ By 112 w4 (w.heap.size + 1) c ∧ SBx w4 w.heap.size b n p ∧ But g w w4) (fun t _ _ => (intOf t + 1).toNat)
      case atStart => exact ⟨k, r, _, c, Nat.le_refl _, rfl, rfl, rfl, Nat.le_refl _, HC0, hu3, hB1, hC, hSx, hbut⟩
      case round =>
        clear HC0 hu3 hB1 hC hSx hbut
        obtain ⟨j, rs, z, c, hj, rfl, hz, rfl, hrs, HC, hu3, hB1, hC, hSx, hbut⟩ := hrel
        obtain ⟨s0, s1, s2, s3⟩ := id hSx
        cases j with
        | zero =>
          obtain rfl : z = -1 := by omega
          clear hz
          obtain ⟨x, hx0⟩ : ∃ x, m = x + k := ⟨m - k, by omega⟩
          have hx : (m : Int) - (k : Int) = (x : Int) := by omega
          have hx1 : (0 : Int) ≤ (x : Int) := by omega
          have hx2 : (x : Int) ≤ (m : Int) := by omega
          have hx3 : m - x = k := by omega
          have hml := HO.out.le
          have hcl := HC.out.len
          have hol : o.length = off + len + post.length := by
            rw [HO.out.row]
            simp only [List.length_append, List.length_take, List.length_drop, List.length_map, bdig_len]
            omega
          have hkc : (k : Int) ≤ 32 := by omega
          have hxw : IntKind.i64.wrap (x : Int) = (x : Int) := by rw [IntKind.wrap_i64]; omega
          have hcx : ¬ (cap = x) := by omega
          have HW2 : Hid (WrI b len a0 pre mid post x (splice o (off + x) (c.take k)) q) := by
            have h9 := HO.out.step hS.b2 hmid ha k hk
            rw [← hS.pw, hr, hq, hpre, show m - k = x by omega, ← HC.out.done (by omega)] at h9
            exact h9
          have hx4 : (x : Int) ≤ (cap : Int) := by omega
          have hxm : Hid (x < m) := (by omega : x < m)
          have hqa : q ≤ a0 := Nat.le_trans (by rw [← hq]; exact Nat.div_le_self _ _) hle
          have hxk := Lib.hid hx0
          clear hx0
          go_wp2
          go_region_law (refine step_copyY rfl (.tmp 48) (.tmp 50) rfl g (off + x) k (cap - x) (w.heap.size + 1) 32 (by go_simp) (by go_simp) o c 112 hB1 hC (by omega) (by omega) ?_; intro w5 HB5 hbut5)
          replace hbut5 := But.trans (But.drew (But.refl g _)) hbut5
          have hun5 := hu3.butBy hB1 hbut5
          have hSx5 := hSx.but hbut5 (by omega)
          have hC5 := hC.but hbut5 (by omega)
          have hbut6 := But.trans hbut hbut5
          clear hB1 hC hSx hu3 hbut hbut5 s0 s1 s2 s3
          go_wp2
          go_roundw
          case rel => exact ⟨x, q, _, c, rfl, HW2, hun5, hqa, HB5.out, hSx5, hcl, hC5, hbut6⟩
          case measure => exact hxm.out
        | succ i =>
          obtain rfl : z = (i : Int) := by omega
          clear hz
          have hb36 := hS.b36
          have hb2 := hS.b2
          obtain ⟨d, hd⟩ : ∃ d, rs % b = d := ⟨_, rfl⟩
          obtain ⟨y, hy⟩ : ∃ y, rs / b = y := ⟨_, rfl⟩
          have hdb : d < 36 := by rw [← hd]; exact Nat.lt_of_lt_of_le (Nat.mod_lt _ (by omega)) hb36
          have o7 : (rs : Int).tdiv (b : Int) = (y : Int) := by rw [Int.tdiv_eq_ediv_of_nonneg (Int.natCast_nonneg _), ← hy, Int.natCast_ediv]
          have o8 : (rs : Int).tmod (b : Int) = (d : Int) := by rw [Int.tmod_eq_emod_of_nonneg (Int.natCast_nonneg _), ← hd, Int.natCast_emod]
          have o7' : (rs : Int) / (b : Int) = (y : Int) := by rw [← hy, Int.natCast_ediv]
          have o8' : (rs : Int) % (b : Int) = (d : Int) := by rw [← hd, Int.natCast_emod]
          have hyr : y ≤ rs := by rw [← hy]; exact Nat.div_le_self _ _
          have hbz : ¬ ((b : Int) = 0) := by omega
          have hfr := hC.frozen i
          have hcl := HC.out.len
          have hcell := hC.cell (j := i) (by omega)
          have HST := Lib.hid (HC.out.step (by omega) (by omega))
          rw [hd, hy] at HST
          have hC2 := hC.set_ i (digB d)
          go_wp2
          rw [digits_at d hdb]
          exact ⟨⟨i, y, _, c.set i (digB d), by omega, rfl, rfl, rfl, by omega, HST, hu3.setBy hC _ _, hB1.other (by omega) _ _, hC2, hSx.other (by omega) _ _, hbut.setNew (by omega) _ _⟩, by simp [intOf]⟩
end Go.Proofs.YtfkcdmbiihkiiaaGreatDoor
/- A row of slices that grows; what is kept meanwhile. -/
namespace Go.Proofs.YtfkcdmbiihkiiaaGreatDoor
open Go.RowKit
set_option linter.unusedVariables false
set_option maxHeartbeats 400000

/-- A value is a slice. -/
def Sl (u : Value) : Prop := ∃ a l c, u = .slice a l c
theorem U.sl {w : World} {v : Value} {xs : List Nat} (h : U w v xs) : Sl v := by
  obtain ⟨A, c, rfl, _⟩ := h
  exact ⟨_, _, _, rfl⟩
theorem Sl.one {u : Value} (h : Sl u) : u.oneCell' = true := by obtain ⟨a, l, c, rfl⟩ := h; rfl
theorem cell_lt {w : World} {p : Addr} {v : Value} (h : w.cell? p = some v) : p.block < w.heap.size := by
  rcases Nat.lt_or_ge p.block w.heap.size with h1 | h1
  · exact h1
  · exfalso
    unfold World.cell? at h
    rw [Array.getElem?_eq_none h1] at h
    cases h
/-- Every old cell that holds no slice is kept, and all that is older than B. -/
structure Kee (B : Nat) (w w' : World) : Prop where
  below : Below B w w'
  cell : ∀ p v, w.cell? p = some v → ¬ Sl v → w'.cell? p = some v
theorem Kee.refl (B : Nat) (w : World) : Kee B w w := ⟨Below.refl _ _, fun _ _ h _ => h⟩
theorem Kee.trans {B : Nat} {a b c : World} (h : Kee B a b) (k : Kee B b c) : Kee B a c := ⟨h.below.trans k.below, fun p v h1 h2 => k.cell p v (h.cell p v h1 h2) h2⟩
theorem Kee.ofExt {B : Nat} {a b : World} (hB : B ≤ a.heap.size) (h : Ext a b) : Kee B a b := ⟨Below.mono h hB, fun p v h1 _ => (h.cell (cell_lt h1)).trans h1⟩
theorem Kee.ext {B : Nat} {a b c : World} (h : Kee B a b) (hB : B ≤ a.heap.size) (k : Ext b c) : Kee B a c := h.trans (Kee.ofExt (Nat.le_trans hB h.below.size) k)
theorem Kee.size {B : Nat} {a b : World} (h : Kee B a b) : a.heap.size ≤ b.heap.size := h.below.size
theorem Kee.mono {B C : Nat} {a b : World} (h : Kee B a b) (hC : C ≤ B) : Kee C a b := ⟨Below.mono h.below hC, h.cell⟩
theorem U.kee {B : Nat} {w w' : World} {v : Value} {xs : List Nat} (h : U w v xs) (k : Kee B w w') : U w' v xs := by
  obtain ⟨A, c, rfl, hc, hx, hr⟩ := h
  refine ⟨A, c, rfl, hc, hx, fun h0 => ?_⟩
  obtain ⟨ad, hA, hb, hcell⟩ := hr h0
  exact ⟨ad, hA, Nat.lt_of_lt_of_le hb k.size, fun j hj => k.cell _ _ (hcell j hj) (by rintro ⟨a, l, c, e⟩; cases e)⟩
theorem Un.kee {B : Nat} {w w' : World} {v : Value} {n : Nat} (h : Un w v n) (k : Kee B w w') : Un w' v n := U.kee h k
theorem SBx.kee {B : Nat} {w w' : World} {S b n p : Nat} (h : SBx w S b n p) (k : Kee B w w') : SBx w' S b n p := by
  obtain ⟨h0, h1, h2, h3⟩ := h
  exact ⟨Nat.lt_of_lt_of_le h0 k.size, k.cell _ _ h1 (by rintro ⟨a, l, c, e⟩; cases e), k.cell _ _ h2 (by rintro ⟨a, l, c, e⟩; cases e), k.cell _ _ h3 (by rintro ⟨a, l, c, e⟩; cases e)⟩

/-- A row of slices in block g. -/
structure Rw (B : Nat) (w : World) (g n cap : Nat) (es : List Value) : Prop where
  lo : B ≤ g
  caps : n ≤ cap ∧ cap ≤ maxLen
  len : es.length = n
  row : ∃ cur : Array Value, w.heap[g]? = some (.cells cur 22 (0, 0)) ∧ cur.size = cap ∧ cur.toList.take n = es ∧ ∀ u ∈ cur.toList, Sl u
theorem Rw.lt {B : Nat} {w : World} {g n cap : Nat} {es : List Value} (h : Rw B w g n cap es) : g < w.heap.size := by
  obtain ⟨cur, h1, _⟩ := h.row
  exact (Array.getElem?_eq_some_iff.1 h1).1
theorem Rw.cell {B : Nat} {w : World} {g n cap : Nat} {es : List Value} (h : Rw B w g n cap es) {j : Nat} (hj : j < n) : w.cell? ⟨g, j, none⟩ = es[j]? := by
  obtain ⟨cur, h1, h2, h3, h4⟩ := h.row
  rw [cell_of_row w g j _ _ _ h1, ← h3, List.getElem?_take_of_lt hj, Array.getElem?_toList]
theorem Rw.of {B : Nat} {w w' : World} {g n cap : Nat} {es : List Value} (h : Rw B w g n cap es) (e : w'.heap[g]? = w.heap[g]?) : Rw B w' g n cap es := by
  obtain ⟨cur, h1, h2⟩ := h.row
  exact ⟨h.lo, h.caps, h.len, cur, e.trans h1, h2⟩
theorem Rw.ext {B : Nat} {w w' : World} {g n cap : Nat} {es : List Value} (h : Rw B w g n cap es) (k : Ext w w') : Rw B w' g n cap es := h.of (k.block g h.lt)
theorem Rw.sl {B : Nat} {w : World} {g n cap : Nat} {es : List Value} (h : Rw B w g n cap es) {p : Addr} (hp : p.block = g) {v : Value} (hv : w.cell? p = some v) : Sl v := by
  obtain ⟨cur, h1, h2, h3, h4⟩ := h.row
  unfold World.cell? at hv
  rw [hp, h1] at hv
  simp only at hv
  split at hv
  · cases hv
  · exact h4 v (Array.mem_toList_iff.2 (Array.mem_of_getElem? hv))
theorem Rw.new (B : Nat) (w : World) (e : Value) (he : Sl e) (hB : B ≤ w.heap.size) : Rw B (w.alloc (.cells #[e] 22)) w.heap.size 1 1 [e] :=
  ⟨hB, ⟨Nat.le_refl _, by unfold maxLen; omega⟩, rfl, #[e], heap_alloc_new w _, rfl, rfl, fun u hu => by simp at hu; subst hu; exact he⟩
theorem infoS : (Tryz.prog.info? 22).map (fun i => (i.zero, i.size, i.bytes)) = some (some (.slice none 0 0), 1, 24) := by kernel_rfl
theorem infoS_parts : ∃ i0 : TypeInfo, Tryz.prog.info? 22 = some i0 ∧ i0.zero = some (.slice none 0 0) ∧ i0.size = 1 ∧ i0.bytes = 24 := by
  cases h : Tryz.prog.info? 22 with
  | none =>
    have := infoS
    rw [h] at this
    cases this
  | some i0 =>
    have := infoS
    rw [h] at this
    simp only [Option.map_some, Option.some.injEq, Prod.mk.injEq] at this
    exact ⟨i0, rfl, this.1, this.2.1, this.2.2⟩
/-- One slice more. -/
theorem Rw.push {B : Nat} {w : World} {g n cap : Nat} {es : List Value} (h : Rw B w g n cap es) (e : Value) (he : Sl e) (a : Addr) (ha : w.cell? a = some e) (hn : n + 1 ≤ 1000000) (hB : B ≤ w.heap.size) :
    ∃ g' cap' w', (Builtin.append_ #[111, 111] 111 #[.slice (some ⟨g, 0, none⟩) n cap, .slice (some a) 1 1]).run Tryz.prog w = .ok (.slice (some ⟨g', 0, none⟩) (n + 1) cap') w' ∧ Rw B w' g' (n + 1) cap' (es ++ [e]) ∧
      w.grownBy w' (some g) ∧ (g' = g ∨ g' = w.heap.size) ∧ Kee B w w' := by
  obtain ⟨i0, hi, hz, hs, hb⟩ := infoS_parts
  obtain ⟨cur, h1, h2, h3, h4⟩ := id h.row
  have hnews : ∀ j u, [e][j]? = some u → w.cell? (a.add j) = some u := by
    intro j u hj
    have h0 := (List.getElem?_eq_some_iff.1 hj).1
    have : j = 0 := by simpa using h0
    subst this
    simp at hj
    subst hj
    rw [show a.add 0 = a by simp [Addr.add]]
    exact ha
  by_cases hroom : n + 1 ≤ cap
  · have hr := run_append_room (P := Tryz.prog) w 111 111 22 i0 Tryz.underlying111 hi g n cap cur h1 a 1 1 [e] (by rw [hs]; rfl) hnews (by intro u hu; simp at hu; subst hu; exact he.one) hroom (by rw [hs, h2]; simpa using hroom)
    rw [hs, Nat.mul_one] at hr
    have hhe : (w.setRow g (cur.toList.take n ++ [e] ++ cur.toList.drop (n + [e].length)).toArray).heap[g]? = some (.cells (cur.toList.take n ++ [e] ++ cur.toList.drop (n + [e].length)).toArray 22 (0, 0)) := setRow_heap w g cur _ 22 _ h1
    have hot : ∀ k, k ≠ g → (w.setRow g (cur.toList.take n ++ [e] ++ cur.toList.drop (n + [e].length)).toArray).heap[k]? = w.heap[k]? := fun k hk => setRow_other w g k _ hk
    have hsz : (w.setRow g (cur.toList.take n ++ [e] ++ cur.toList.drop (n + [e].length)).toArray).heap.size = w.heap.size := by simp
    have hgb : w.grownBy (w.setRow g (cur.toList.take n ++ [e] ++ cur.toList.drop (n + [e].length)).toArray) (some g) := ⟨rfl, rfl, rfl, by rw [hsz]; exact Nat.le_refl _, fun k _ hk => hot k (fun e => hk (by rw [e]))⟩
    refine ⟨g, cap, _, hr, ⟨h.lo, ⟨hroom, h.caps.2⟩, by rw [List.length_append, h.len]; rfl, _, hhe, ?_, ?_, ?_⟩, hgb, .inl rfl, ⟨⟨rfl, rfl, rfl, by rw [hsz]; exact Nat.le_refl _, fun k hk => hot k (by have := h.lo; omega)⟩, ?_⟩⟩
    · simp only [List.size_toArray, List.length_append, List.length_take, List.length_drop, Array.length_toList, List.length_singleton]
      omega
    · have hl : (cur.toList.take n ++ [e]).length = n + 1 := by rw [List.length_append, h3, h.len]; rfl
      show List.take (n + 1) (cur.toList.take n ++ [e] ++ cur.toList.drop (n + [e].length)) = _
      rw [List.take_left' hl, h3]
    · intro u hu
      simp only [List.mem_append, List.mem_singleton] at hu
      rcases hu with (hu | hu) | hu
      · exact h4 u (List.mem_of_mem_take hu)
      · subst hu; exact he
      · exact h4 u (List.mem_of_mem_drop hu)
    · intro p v hv hns
      by_cases hp : p.block = g
      · exact absurd (h.sl hp hv) hns
      · rw [← hv]
        unfold World.cell?
        rw [hot _ hp]
  · have holds : ∀ j v, es[j]? = some v → w.cell? ((⟨g, 0, none⟩ : Addr).add j) = some v := by
      intro j v hj
      have h0 := (List.getElem?_eq_some_iff.1 hj).1
      rw [h.len] at h0
      rw [addr_zero_add, h.cell h0, hj]
    have hr := run_append_grow (P := Tryz.prog) w 111 111 22 i0 (.slice none 0 0) Tryz.underlying111 hi hz ⟨g, 0, none⟩ n cap es (by rw [h.len, hs, Nat.mul_one]) holds a 1 1 [e] (by rw [hs]; rfl) hnews (by omega) (by omega) (growslice_fits (by omega) (by rw [hb]; omega))
    have hge := grownCap_ge w (n + 1) cap 22
    have hcm : grownCap w (n + 1) cap 22 ≤ maxLen := grownCap_le_maxLen w (n + 1) cap 22 (by unfold maxLen; omega)
    generalize grownCap w (n + 1) cap 22 = G at *
    have hE : Ext w (w.drew.alloc (.cells (es.toArray ++ [e].toArray ++ Builtin.zeroCells (Value.slice none 0 0).cells (G - (n + 1))) 22)) := ((Ext.refl w).drew).alloc _
    refine ⟨w.heap.size, G, _, hr, ⟨hB, ⟨hge, hcm⟩, by rw [List.length_append, h.len]; rfl, _, heap_alloc_new w.drew _, ?_, ?_, ?_⟩, ⟨rfl, rfl, rfl, hE.size, fun k hk _ => hE.block k hk⟩, .inr rfl, Kee.ofExt hB hE⟩
    · simp only [Array.size_append, List.size_toArray, size_zeroCells, List.length_singleton, h.len]
      show n + 1 + (G - (n + 1)) * 1 = G
      omega
    · have hl : (es ++ [e]).length = n + 1 := by rw [List.length_append, h.len]; rfl
      simp only [Array.toList_append]
      exact List.take_left' hl
    · intro u hu
      simp only [Array.toList_append, List.mem_append, List.mem_singleton] at hu
      rcases hu with (hu | hu) | hu
      · rw [← h3] at hu; exact h4 u (List.mem_of_mem_take hu)
      · subst hu; exact he
      · have : u = Value.slice none 0 0 := by
          simp [Builtin.zeroCells, Value.cells] at hu
          obtain ⟨j, _, h2⟩ := hu
          rw [Nat.mod_one] at h2
          exact h2.symm
        subst this
        exact ⟨_, _, _, rfl⟩
end Go.Proofs.YtfkcdmbiihkiiaaGreatDoor
