/- Sums of products modulo a prime, by transforms. -/
import Derived.Test.YtofhpfmgopmcmaaDoorM2
import Derived.Deep.Cut
import Derived.Deep.CutRange
namespace Go.Proofs.YtofhpfmgopmcmaaDoor
open Go.RowKit
set_option linter.unusedVariables false
set_option maxHeartbeats 400000

theorem keepN {x y : World} {B Bn : Nat} {v : Value} {f : Fd} (h : (B < x.heap.size ∧ x.cell? ⟨B, 0, none⟩ = some (.int .u32 (f.p : Int)) ∧ x.cell? ⟨B, 1, none⟩ = some (.int .u32 (f.root : Int)) ∧ x.cell? ⟨B, 2, none⟩ = some (.int .u32 (f.neg : Int)) ∧ x.cell? ⟨B, 3, none⟩ = some (.int .u32 (f.square : Int)) ∧ x.cell? ⟨B, 4, none⟩ = some (.int .u32 (f.ahead : Int))) ∧ x.cell? ⟨Bn, 0, none⟩ = some v) (hB : Ext x y) :
    (B < y.heap.size ∧ y.cell? ⟨B, 0, none⟩ = some (.int .u32 (f.p : Int)) ∧ y.cell? ⟨B, 1, none⟩ = some (.int .u32 (f.root : Int)) ∧ y.cell? ⟨B, 2, none⟩ = some (.int .u32 (f.neg : Int)) ∧ y.cell? ⟨B, 3, none⟩ = some (.int .u32 (f.square : Int)) ∧ y.cell? ⟨B, 4, none⟩ = some (.int .u32 (f.ahead : Int))) ∧ y.cell? ⟨Bn, 0, none⟩ = some v :=
  ⟨Bx.ext (f := f) h.1 hB, (hB.cell (p := ⟨Bn, 0, none⟩) (World.block_lt_of_cell? x _ h.2)).trans h.2⟩

theorem keepNS {x : World} {B Bn Bq : Nat} {v u : Value} {f : Fd} (h : (B < x.heap.size ∧ x.cell? ⟨B, 0, none⟩ = some (.int .u32 (f.p : Int)) ∧ x.cell? ⟨B, 1, none⟩ = some (.int .u32 (f.root : Int)) ∧ x.cell? ⟨B, 2, none⟩ = some (.int .u32 (f.neg : Int)) ∧ x.cell? ⟨B, 3, none⟩ = some (.int .u32 (f.square : Int)) ∧ x.cell? ⟨B, 4, none⟩ = some (.int .u32 (f.ahead : Int))) ∧ x.cell? ⟨Bn, 0, none⟩ = some v) (h1 : B ≠ Bq) (h2 : Bn ≠ Bq) :
    (B < (x.setCell ⟨Bq, 0, none⟩ u).heap.size ∧ (x.setCell ⟨Bq, 0, none⟩ u).cell? ⟨B, 0, none⟩ = some (.int .u32 (f.p : Int)) ∧ (x.setCell ⟨Bq, 0, none⟩ u).cell? ⟨B, 1, none⟩ = some (.int .u32 (f.root : Int)) ∧ (x.setCell ⟨Bq, 0, none⟩ u).cell? ⟨B, 2, none⟩ = some (.int .u32 (f.neg : Int)) ∧ (x.setCell ⟨Bq, 0, none⟩ u).cell? ⟨B, 3, none⟩ = some (.int .u32 (f.square : Int)) ∧ (x.setCell ⟨Bq, 0, none⟩ u).cell? ⟨B, 4, none⟩ = some (.int .u32 (f.ahead : Int))) ∧ (x.setCell ⟨Bq, 0, none⟩ u).cell? ⟨Bn, 0, none⟩ = some v :=
  ⟨((But.refl Bq x).setCell 0 u).bx (f := f) h.1 h1, (((But.refl Bq x).setCell 0 u).cell (p := ⟨Bn, 0, none⟩) (World.block_lt_of_cell? x _ h.2) h2).trans h.2⟩
/-- A cell made ahead of a call. -/
theorem made_cell {x y : World} {v : Value} {t : TypeId} (hB : Ext (x.alloc (.cells #[v] t)) y) : y.cell? ⟨x.heap.size, 0, none⟩ = some v :=
  (hB.cell (p := ⟨x.heap.size, 0, none⟩) (by simp)).trans (by go_simp)
theorem made_free {x y : World} {v : Value} {t : TypeId} (hB : Ext (x.alloc (.cells #[v] t)) y) : y.frozen? ⟨x.heap.size, 0, none⟩ = false :=
  (hB.frozen (p := ⟨x.heap.size, 0, none⟩) (by simp)).trans (by go_simp)
theorem made_size {x y : World} {v : Value} {t : TypeId} (hB : Ext (x.alloc (.cells #[v] t)) y) : x.heap.size < y.heap.size := by
  have := hB.size; simp at this; omega
theorem drawn {x y : World} (hB : Ext x.drew y) : Ext x y := ((Ext.refl x).drew).below hB
theorem set_same {x : World} {p : Addr} {u v : Value} (h : x.cell? p = some u) : (x.setCell p v).cell? p = some v := by
  go_simp
theorem kept_cell {x y : World} {p : Addr} {v : Value} (hB : Ext x y) (h : x.cell? p = some v) : y.cell? p = some v := (hB.cell (World.block_lt_of_cell? x _ h)).trans h
theorem kept_free {x y : World} {p : Addr} {v : Value} (hB : Ext x y) (h : x.cell? p = some v) (g : x.frozen? p = false) : y.frozen? p = false := (hB.frozen (World.block_lt_of_cell? x _ h)).trans g

/-- The first m numbers put anew. -/
structure Upd (n p : Nat) (G : Nat → Nat) (m : Nat) (l o : List Nat) : Prop where
  len : o.length = n
  lt : ∀ x ∈ o, x < p
  at_ : ∀ i, lb o i = if i < m then G i else lb l i
theorem Upd.start {n p : Nat} {G : Nat → Nat} {l : List Nat} (h : l.length = n) (hl : ∀ x ∈ l, x < p) : Upd n p G 0 l l := ⟨h, hl, fun i => by rw [if_neg (by omega)]⟩
theorem Upd.step {n p : Nat} {G : Nat → Nat} {m : Nat} {l o : List Nat} (H : Upd n p G m l o) (hm : m < n) (hG : G m < p) : Upd n p G (m + 1) l (o.set m (G m)) := by
  refine ⟨by simp [H.len], set_lt H.lt hG, fun i => ?_⟩
  rw [lb_set _ _ _ _ (by rw [H.len]; exact hm)]
  by_cases e : m = i
  · subst e; rw [if_pos rfl, if_pos (by omega)]
  · rw [if_neg e, H.at_ i]
    by_cases c : i < m
    · rw [if_pos c, if_pos (by omega)]
    · rw [if_neg c, if_neg (by omega)]

set_option maxRecDepth 100000 in
set_option maxHeartbeats 4000000 in
theorem rests_calls (w : World) (f : Fd) (F : Fld f) (k n : Nat) (hn : 2 ^ k = n) (hk : k ≤ 16) (va vb : Value) (a b : List Nat) (hua : U w va a) (hub : U w vb b)
    (ha : a.length ≤ n) (hb : b.length ≤ n) (hab : a.length + b.length ≤ n + 1) :
    Calls Tryd.prog 34 #[f.V, va, vb, .int .i64 (k : Nat)] w fun e w' => (∃ u r, e = .returned u ∧ U w' u r ∧ r.length = n ∧ (∀ x ∈ r, x < f.p) ∧ ∀ j, j < n → Eqm (f.p : Int) ((lb r j : Nat) : Int) ((cv a b a.length j : Nat) : Int)) ∧ Ext w w' := by
  have hG := F.good
  have p0 := hG.p0
  have p1 := hG.p1
  have hn1 : n ≤ 65536 := by rw [← hn]; exact Nat.pow_le_pow_right (by decide) hk
  have hn0 : 0 < n := by rw [← hn]; exact Nat.two_pow_pos k
  have HN := Lib.hid hn
  have HMath := Lib.hid (fun x y z u r => @rest_math f F k n (by omega) hn a b ha hab x y z u r)
  have hw1 : IntKind.i64.wrap ((2 : Int) ^ k) = (n : Int) := by rw [IntKind.wrap_i64, ← hn]; have : ((2 ^ k : Nat) : Int) = (2 : Int) ^ k := by simp
                                                                rw [← this]; omega
  have hk0 : (0 : Int) ≤ (k : Int) := by omega
  have hk1 : decide ((k : Int) < 0) = false := by rw [decide_eq_false_iff_not]; omega
  have hmf : ∀ (fn : Fn) (first cap : Array Value) (w : World), (Instr.makeFunc fn first cap).run Tryd.prog w = .ok (.func fn first cap) w := fun _ _ _ _ => rfl
  have HX := Bx.new w f
  obtain ⟨b0, b1, b2, b3, b4, b5⟩ := id HX
  clear hn
  unfold Fd.V
  go_enter Tryd.func34, Tryd.ntmps34
  go_upto_region 2 with (fail)
  have hE0 : Ext w ((w.alloc (.cells #[.int .u32 (f.p : Int), .int .u32 (f.root : Int), .int .u32 (f.neg : Int), .int .u32 (f.square : Int), .int .u32 (f.ahead : Int)] 56)).alloc (.cells #[.int .i64 (n : Nat)] 3)) := ((Ext.refl w).alloc _).alloc _
  have hX1 := HX.ext ((Ext.refl _).alloc (.cells #[.int .i64 (n : Nat)] 3))
  have hN1 : ((w.alloc (.cells #[.int .u32 (f.p : Int), .int .u32 (f.root : Int), .int .u32 (f.neg : Int), .int .u32 (f.square : Int), .int .u32 (f.ahead : Int)] 56)).alloc (.cells #[.int .i64 (n : Nat)] 3)).cell? ⟨w.heap.size + 1, 0, none⟩ = some (.int .i64 (n : Nat)) := by
    rw [show w.heap.size + 1 = (w.alloc (.cells #[.int .u32 (f.p : Int), .int .u32 (f.root : Int), .int .u32 (f.neg : Int), .int .u32 (f.square : Int), .int .u32 (f.ahead : Int)] 56)).heap.size by simp]
    go_simp
  have hs1 : w.heap.size + 1 < ((w.alloc (.cells #[.int .u32 (f.p : Int), .int .u32 (f.root : Int), .int .u32 (f.neg : Int), .int .u32 (f.square : Int), .int .u32 (f.ahead : Int)] 56)).alloc (.cells #[.int .i64 (n : Nat)] 3)).heap.size := by simp
  clear HX b0 b1 b2 b3 b4 b5
  generalize (w.alloc (.cells #[.int .u32 (f.p : Int), .int .u32 (f.root : Int), .int .u32 (f.neg : Int), .int .u32 (f.square : Int), .int .u32 (f.ahead : Int)] 56)).alloc (.cells #[.int .i64 (n : Nat)] 3) = w2 at *
  have hPW := Lib.hid (fun W => powers_calls W f hG k n (rt f k) HN.out.symm (by omega))
  go_cut [10] from 21 to 26 (fun s10 wx => ∃ (q Bq : Nat) (pw : List Nat), s10 = .pointer (some ⟨Bq, 0, none⟩) ∧ Bq < wx.heap.size ∧ wx.cell? ⟨Bq, 0, none⟩ = some (.slice (some ⟨q, 0, none⟩) pw.length pw.length) ∧ Hid (Pw f k (rt f k) pw) ∧ Rd wx q pw ∧ Ext w2 wx)
  case first =>
    have hdd : w2.drew.heap.size = w2.heap.size := rfl
    have hS0 : (w.heap.size < w2.drew.heap.size ∧ w2.drew.cell? ⟨w.heap.size, 0, none⟩ = some (.int .u32 (f.p : Int)) ∧ w2.drew.cell? ⟨w.heap.size, 1, none⟩ = some (.int .u32 (f.root : Int)) ∧ w2.drew.cell? ⟨w.heap.size, 2, none⟩ = some (.int .u32 (f.neg : Int)) ∧ w2.drew.cell? ⟨w.heap.size, 3, none⟩ = some (.int .u32 (f.square : Int)) ∧ w2.drew.cell? ⟨w.heap.size, 4, none⟩ = some (.int .u32 (f.ahead : Int))) ∧ w2.drew.cell? ⟨w.heap.size + 1, 0, none⟩ = some (.int .i64 (n : Nat)) := ⟨hX1, hN1⟩
    go_region_held3 (fun X => (w.heap.size < X.heap.size ∧ X.cell? ⟨w.heap.size, 0, none⟩ = some (.int .u32 (f.p : Int)) ∧ X.cell? ⟨w.heap.size, 1, none⟩ = some (.int .u32 (f.root : Int)) ∧ X.cell? ⟨w.heap.size, 2, none⟩ = some (.int .u32 (f.neg : Int)) ∧ X.cell? ⟨w.heap.size, 3, none⟩ = some (.int .u32 (f.square : Int)) ∧ X.cell? ⟨w.heap.size, 4, none⟩ = some (.int .u32 (f.ahead : Int))) ∧ X.cell? ⟨w.heap.size + 1, 0, none⟩ = some (.int .i64 (n : Nat)))
      (first
        | exact hS0
        | assumption
        | exact keepN (by assumption) (by assumption)
        | exact keepN (by assumption) ((Ext.refl _).alloc _)
        | exact keepN (keepN (by assumption) ((Ext.refl _).alloc _)) (by assumption)
        | exact keepN (keepN (keepN hS0 hB3) hB4) ((Ext.refl _).alloc _)
        | exact keepNS (keepN (keepN (keepN hS0 ((Ext.refl _).alloc _)) hB3) hB4) (by omega) (by omega)
        | exact keepNS (keepN (keepN (keepN hS0 hB3) ((Ext.refl _).alloc _)) hB4) (by omega) (by omega)
        | exact keepNS (by assumption) (by omega) (by omega)
        | exact keepNS (keepN (by assumption) ((Ext.refl _).alloc _)) (by omega) (by omega))
      (first
        | (go_at_call 30; ((with_reducible refine (of_calls _ f hG k (by omega)).mono ?_); rintro e w3 ⟨rfl, hB3⟩; have hs3 := hB3.size; first | (have h0 : Ext w2.drew w3 := hB3) | (have hz3 : w3.cell? ⟨w2.heap.size, 0, none⟩ = some (.slice none 0 0) := made_cell (x := w2.drew) hB3; have hf3 : w3.frozen? ⟨w2.heap.size, 0, none⟩ = false := made_free (x := w2.drew) hB3; have hl3 : w2.heap.size < w3.heap.size := made_size (x := w2.drew) hB3)))
        | (go_at_call 40; ((with_reducible refine (hPW.out _).mono ?_); rintro e w4 ⟨⟨q, pw, rfl, hpw, hown⟩, hB4⟩; have hs4 := hB4.size; first | (have hz4 := kept_cell hB4 hz3; have hf4 := kept_free hB4 hz3 hf3) | (have hz4 : w4.cell? ⟨w3.heap.size, 0, none⟩ = some (.slice none 0 0) := made_cell (x := w3) hB4; have hf4 : w4.frozen? ⟨w3.heap.size, 0, none⟩ = false := made_free (x := w3) hB4; have hl4 : w3.heap.size < w4.heap.size := made_size (x := w3) hB4) | skip)))
    · go_wp2_with (fail)
      go_meet
      exact ⟨q, w4.heap.size, pw, rfl, by simp, by go_simp, hpw, ((But.refl w4.heap.size w4).ext ((Ext.refl w4).alloc _)).rd hown.rd (by have := hown.block; omega), ((drawn hB3).below hB4).alloc _⟩
    · go_wp2_with (fail)
      go_meet
      exact ⟨q, w3.heap.size, pw, rfl, by simp; omega, set_same hz4, hpw, ((But.refl w3.heap.size w4).setCell 0 _).rd hown.rd (by have := hown.block; simp at this; omega), ((((drawn hB3).alloc _).below hB4).setCell (p := ⟨w3.heap.size, 0, none⟩) (by exact (drawn hB3).size) _)⟩
    · go_wp2_with (fail)
      go_meet
      exact ⟨q, w2.heap.size, pw, rfl, by simp; omega, set_same hz4, hpw, ((But.refl w2.heap.size w4).setCell 0 _).rd hown.rd (by have := hown.block; omega), (((((Ext.refl w2).alloc _).below (drawn hB3)).below hB4).setCell (p := ⟨w2.heap.size, 0, none⟩) (Nat.le_refl _) _)⟩
  case rest =>
    obtain ⟨q, Bq, pw, rfl, hq1, hq2, hpw, hrd, hE2⟩ := hcut
    have hX := hX1.ext hE2
    have hNc := kept_cell hE2 hN1
    have hE := hE0.below hE2
    have hs2 := hE2.size
    replace hua := hua.below hE
    replace hub := hub.below hE
    clear hE0 hX1 hN1 hPW hE2
    have hLa := Lib.hid (fun W h1 h2 h3 h4 hu => load_calls W f hG k n (rt f k) (w.heap.size + 1) w.heap.size Bq q pw HN.out (by omega) (F.rt (by omega)) hpw.out h1 h2 h3 h4 va a hu ha)
    have hLb := Lib.hid (fun W h1 h2 h3 h4 hu => load_calls W f hG k n (rt f k) (w.heap.size + 1) w.heap.size Bq q pw HN.out (by omega) (F.rt (by omega)) hpw.out h1 h2 h3 h4 vb b hu hb)
    have hwc : w.heap.size + 1 < wc.heap.size := by omega
    go_wp2_with (fail)
    refine (hLa.out _ hrd ⟨hwc, hNc⟩ hX ⟨hq1, hq2⟩ hua).mono ?_
    rintro e w5 ⟨⟨g1, o1, rfl, hd1, hown1⟩, hB5⟩
    have hs5 := hB5.size
    have HD1 := Lib.hid hd1
    replace hrd := (But.refl wc.heap.size wc).ext hB5 |>.rd hrd (by have := hrd.1; omega)
    replace hNc := kept_cell hB5 hNc
    replace hX := hX.ext hB5
    replace hq2 := kept_cell hB5 hq2
    replace hub := hub.below hB5
    replace hE := hE.below hB5
    clear hd1 hB5 hLa hua
    go_wp2_with (fail)
    refine (hLb.out _ hrd ⟨by omega, hNc⟩ hX ⟨by omega, hq2⟩ hub).mono ?_
    rintro e w6 ⟨⟨g2, o2, rfl, hd2, hown2⟩, hB6⟩
    have hs6 := hB6.size
    have HD2 := Lib.hid hd2
    replace hNc := kept_cell hB6 hNc
    replace hX := hX.ext hB6
    replace hE := hE.below hB6
    have hbl1 := hown1.block
    have hbl2 := hown2.block
    replace hown1 := hown1.ext hB6
    clear hd2 hB6 hLb hub hrd hq2 hq1 hpw
    have hg12 : g2 ≠ g1 := by omega
    have hgf : w.heap.size ≠ g1 := by omega
    have hgn : w.heap.size + 1 ≠ g1 := by omega
    have hl1 := HD1.out.len
    have hl2 := HD2.out.len
    rw [HN.out] at hl1 hl2
    have HL1 := Lib.hid hl1
    have HL2 := Lib.hid hl2
    have HT1 := Lib.hid HD1.out.lt
    have HT2 := Lib.hid HD2.out.lt
    have hrd2 := hown2.rd
    clear hl1 hl2 hown2
    go_wp2_with (fail)
    go_loopw [36] (fun t wr => ∃ (m : Nat) (o : List Nat), m ≤ n ∧ t = .int .i64 (m : Nat) ∧ Hid (Upd n f.p (fun i => mm f (lb o1 i) (lb o2 i)) m o1 o) ∧ Own wr wc.heap.size (.slice (some ⟨g1, 0, none⟩) n n) o ∧ But g1 w6 wr) (fun t _ => n - (intOf t).toNat)
    case atStart => exact ⟨0, o1, Nat.zero_le _, rfl, Upd.start HL1.out HT1.out, hown1, But.refl _ _⟩
    case round =>
      clear hown1
      obtain ⟨m, o, hm, rfl, HO, hown, hB⟩ := hrel
      by_cases hlt : m < n
      · have hc1 := hown.rd.2 m (by rw [HO.out.len]; exact hlt)
        have hc2 := (hB.rd hrd2 hg12).2 m (by rw [HL2.out]; exact hlt)
        obtain ⟨b0, b1, b2, b3, b4, b5⟩ := hB.bx hX hgf
        have HST := Lib.hid (HO.out.step hlt (mm_lt f hG _ _))
        have he := HO.out.at_ m
        rw [if_neg (by omega)] at he
        rw [he] at hc1
        have hx1 : lb o1 m < f.p := lb_lt_of (by omega) HT1.out _
        have hy1 : lb o2 m < f.p := lb_lt_of (by omega) HT2.out _
        have hol := HO.out.len
        generalize lb o1 m = x at *
        generalize lb o2 m = y at *
        have hm0 : (0 : Int) ≤ (m : Int) := by omega
        have hm1 : (m : Int) < (n : Int) := by omega
        clear HO he
        go_wp2
        have hD0 : But g1 w6 wr.drew := hB.drew
        go_region_with (first
          | (go_at_call 43; ((with_reducible refine (mul_calls _ f hG x y (by omega) (by omega) (lt_prod (by omega) hy1)).mono ?_); rintro e w8 ⟨rfl, hB8⟩; have ho8 := hown.drew.ext hB8; have hc8 := ho8.rd.2 m (by omega); have hf8 := ho8.frozen' m; have ho9 := ho8.set' m (mm f x y); have hB9 := (hD0.ext hB8).setCell m (.int .u32 (mm f x y : Nat)))))
        all_goals
          (go_wp2
           go_roundw
           case rel => exact ⟨m + 1, _, by omega, by go_num, HST, ho9, hB9⟩
           case measure => simp [intOf]; omega)
      · obtain rfl : m = n := by omega
        have HZ1 := Lib.hid HO.out.len
        have HZ2 := Lib.hid HO.out.lt
        have HZ3 : Hid (∀ q, q < m → lb o q = mm f (lb o1 q) (lb o2 q)) := fun q hq => by rw [HO.out.at_ q, if_pos hq]
        clear HO hlt hm hrd2 HT1 HT2 HL1 HL2
        have hw6 : w.heap.size + 1 < w6.heap.size := by omega
        go_wp2_with (fail)
        have hS0 : (w.heap.size < wr.drew.heap.size ∧ wr.drew.cell? ⟨w.heap.size, 0, none⟩ = some (.int .u32 (f.p : Int)) ∧ wr.drew.cell? ⟨w.heap.size, 1, none⟩ = some (.int .u32 (f.root : Int)) ∧ wr.drew.cell? ⟨w.heap.size, 2, none⟩ = some (.int .u32 (f.neg : Int)) ∧ wr.drew.cell? ⟨w.heap.size, 3, none⟩ = some (.int .u32 (f.square : Int)) ∧ wr.drew.cell? ⟨w.heap.size, 4, none⟩ = some (.int .u32 (f.ahead : Int))) ∧ wr.drew.cell? ⟨w.heap.size + 1, 0, none⟩ = some (.int .i64 (m : Nat)) := ⟨hB.bx hX hgf, (hB.cell (p := ⟨w.heap.size + 1, 0, none⟩) hw6 hgn).trans hNc⟩
        have ho2 : Own wr.drew wc.heap.size (.slice (some ⟨g1, 0, none⟩) m m) o := hown.drew
        have hB2 : But g1 w6 wr.drew := hB.drew
        have hPW := Lib.hid (fun W => powers_calls W f hG k m (bt f k) HN.out.symm (by omega))
        clear hown hB
        go_region_held3 (fun X => (w.heap.size < X.heap.size ∧ X.cell? ⟨w.heap.size, 0, none⟩ = some (.int .u32 (f.p : Int)) ∧ X.cell? ⟨w.heap.size, 1, none⟩ = some (.int .u32 (f.root : Int)) ∧ X.cell? ⟨w.heap.size, 2, none⟩ = some (.int .u32 (f.neg : Int)) ∧ X.cell? ⟨w.heap.size, 3, none⟩ = some (.int .u32 (f.square : Int)) ∧ X.cell? ⟨w.heap.size, 4, none⟩ = some (.int .u32 (f.ahead : Int))) ∧ X.cell? ⟨w.heap.size + 1, 0, none⟩ = some (.int .i64 (m : Nat)))
          (first
            | exact hS0
            | assumption
            | exact keepN (by assumption) (by assumption))
          (first
            | (go_at_call 38; ((with_reducible refine (backward_calls _ f hG k (by omega)).mono ?_); rintro e w3 ⟨rfl, hB3⟩; have ho3 := ho2.ext hB3; have hE4 := hB2.ext hB3))
            | (go_at_call 40; ((with_reducible refine (hPW.out _).mono ?_); rintro e w4 ⟨⟨q2, pw2, rfl, hpw2, hown⟩, hB4⟩; have ho4 := ho3.ext hB4; have hE5 := hE4.ext hB4; have hblk3 := ho3.block; have hqb := hown.block))
            | (go_at_call 51; ((with_reducible refine (up_n _ f hG k (bt f k) m o pw2 g1 q2 m wc.heap.size HN.out (by omega) (F.bt (by omega)) hpw2 (by rw [HZ1.out, HN.out]) HZ2.out ho4 hown.rd (by omega)).mono ?_); rintro e w5 ⟨rfl, ⟨u5, hu5, ho5⟩, hB5⟩; have hE6 := hE5.trans hB5; have hX5 : (w.heap.size < w5.heap.size ∧ w5.cell? ⟨w.heap.size, 0, none⟩ = some (.int .u32 (f.p : Int)) ∧ w5.cell? ⟨w.heap.size, 1, none⟩ = some (.int .u32 (f.root : Int)) ∧ w5.cell? ⟨w.heap.size, 2, none⟩ = some (.int .u32 (f.neg : Int)) ∧ w5.cell? ⟨w.heap.size, 3, none⟩ = some (.int .u32 (f.square : Int)) ∧ w5.cell? ⟨w.heap.size, 4, none⟩ = some (.int .u32 (f.ahead : Int))) ∧ w5.cell? ⟨w.heap.size + 1, 0, none⟩ = some (.int .i64 (m : Nat)) := ⟨hE6.bx hX hgf, (hE6.cell (p := ⟨w.heap.size + 1, 0, none⟩) hw6 hgn).trans hNc⟩)))
        have HU := Lib.hid hu5
        clear hu5 hpw2 hown hblk3 hqb hB5 hB4 hB3 ho4 ho3 hE5 hE4 ho2 hB2 hS0
        go_wp2_with (fail)
        have hS1 : (w.heap.size < w5.drew.heap.size ∧ w5.drew.cell? ⟨w.heap.size, 0, none⟩ = some (.int .u32 (f.p : Int)) ∧ w5.drew.cell? ⟨w.heap.size, 1, none⟩ = some (.int .u32 (f.root : Int)) ∧ w5.drew.cell? ⟨w.heap.size, 2, none⟩ = some (.int .u32 (f.neg : Int)) ∧ w5.drew.cell? ⟨w.heap.size, 3, none⟩ = some (.int .u32 (f.square : Int)) ∧ w5.drew.cell? ⟨w.heap.size, 4, none⟩ = some (.int .u32 (f.ahead : Int))) ∧ w5.drew.cell? ⟨w.heap.size + 1, 0, none⟩ = some (.int .i64 (m : Nat)) := hX5
        have hOut := Lib.hid (fun W => out_calls W f hG (mont f (sh f m)) (by have := mont_lt f hG (sh f m); omega))
        go_region_held3 (fun X => (w.heap.size < X.heap.size ∧ X.cell? ⟨w.heap.size, 0, none⟩ = some (.int .u32 (f.p : Int)) ∧ X.cell? ⟨w.heap.size, 1, none⟩ = some (.int .u32 (f.root : Int)) ∧ X.cell? ⟨w.heap.size, 2, none⟩ = some (.int .u32 (f.neg : Int)) ∧ X.cell? ⟨w.heap.size, 3, none⟩ = some (.int .u32 (f.square : Int)) ∧ X.cell? ⟨w.heap.size, 4, none⟩ = some (.int .u32 (f.ahead : Int))) ∧ X.cell? ⟨w.heap.size + 1, 0, none⟩ = some (.int .i64 (m : Nat)))
          (first
            | exact hS1
            | assumption
            | exact keepN (by assumption) (by assumption))
          (first
            | (go_at_call 42; ((with_reducible refine (share_calls _ f hG m (by omega)).mono ?_); rintro e w7 ⟨rfl, hB7⟩))
            | (go_at_call 29; ((with_reducible refine (hOut.out _).mono ?_); rintro e w8 ⟨rfl, hB8⟩)))
        have HSH : Hid (mm f (mont f (sh f m)) 1 = sh f m % f.p) := mm_one f hG _
        have hsp := mm_lt f hG (mont f (sh f m)) 1
        generalize mm f (mont f (sh f m)) 1 = S at *
        have hB9 : Ext w5 w8 := (drawn hB7).below hB8
        replace ho5 := ho5.ext hB9
        replace hE6 := hE6.ext hB9
        clear hB7 hB8 hB9 hS1 hX5 hOut
        have HU1 := Lib.hid HU.out.len
        have HU2 := Lib.hid HU.out.lt
        rw [HN.out] at HU1
        go_wp2_with (fail)
        go_loopw [68] (fun t wr => ∃ (j : Nat) (r : List Nat), j ≤ m ∧ t = .int .i64 (j : Nat) ∧ Hid (Upd m f.p (fun i => mm f (lb u5 i) S) j u5 r) ∧ Own wr wc.heap.size (.slice (some ⟨g1, 0, none⟩) m m) r ∧ But g1 w6 wr) (fun t _ => m - (intOf t).toNat)
        case atStart => exact ⟨0, u5, Nat.zero_le _, rfl, Upd.start HU1.out HU2.out, ho5, hE6⟩
        case round =>
          clear ho5 hE6
          obtain ⟨j, r, hj, rfl, HO, hown, hB⟩ := hrel
          by_cases hlt : j < m
          · have hc1 := hown.rd.2 j (by rw [HO.out.len]; exact hlt)
            obtain ⟨b0, b1, b2, b3, b4, b5⟩ := hB.bx hX hgf
            have HST := Lib.hid (HO.out.step hlt (mm_lt f hG _ _))
            have he := HO.out.at_ j
            rw [if_neg (by omega)] at he
            rw [he] at hc1
            have hx1 : lb u5 j < f.p := lb_lt_of (by omega) HU2.out _
            have hol := HO.out.len
            generalize lb u5 j = x at *
            have hm0 : (0 : Int) ≤ (j : Int) := by omega
            have hm1 : (j : Int) < (m : Int) := by omega
            clear HO he
            go_wp2_with (fail)
            refine (mul_calls _ f hG x S (by omega) (by omega) (lt_prod (by omega) hsp)).mono ?_
            rintro e w9 ⟨rfl, hB9⟩
            have ho9 := hown.ext hB9
            have hc9 := ho9.rd.2 j (by omega)
            have hf9 := ho9.frozen' j
            have ho10 := ho9.set' j (mm f x S)
            have hB10 := (hB.ext hB9).setCell j (.int .u32 (mm f x S : Nat))
            generalize mm f x S = y at *
            clear b0 b1 b2 b3 b4 b5 hown hc1 hB ho9 hB9
            go_wp2_with (fail)
            go_roundw
            case rel => exact ⟨j + 1, _, by omega, by go_num, HST, ho10, hB10⟩
            case measure => simp [intOf]; omega
          · obtain rfl : j = m := by omega
            have HR : Hid (∀ q, q < j → lb r q = mm f (lb u5 q) (sh f j % f.p)) := fun q hq => by rw [HO.out.at_ q, if_pos hq, ← HSH.out]
            have HM := Lib.hid (HMath.out o1 o2 o u5 r HD1.out HD2.out HZ3.out HU.out HR.out)
            have hU : U wr (.slice (some ⟨g1, 0, none⟩) j j) r := hown.toU (fun x hx => Nat.lt_trans (HO.out.lt x hx) (by omega)) (by rw [HO.out.len]; omega)
            have HF : Hid (∃ u r, Ending.returned (.slice (some ⟨g1, 0, none⟩) j j) = .returned u ∧ U wr u r ∧ r.length = j ∧ (∀ x ∈ r, x < f.p) ∧ ∀ q, q < j → Eqm (f.p : Int) ((lb r q : Nat) : Int) ((cv a b a.length q : Nat) : Int)) := ⟨_, r, rfl, hU, HO.out.len, HO.out.lt, HM.out⟩
            have hE9 : Ext w wr := Below.trans hE ((hB.below (B := w.heap.size) (by omega) (by omega)))
            clear HO HM hU HR hown hB
            go_wp2_with (fail)
            go_ret
            exact ⟨HF.out, hE9⟩
end Go.Proofs.YtofhpfmgopmcmaaDoor
