/- A transform in its place, on the way down. -/
import Derived.Test.YtofhpfmgopmcmaaDoorD1
namespace Go.Proofs.YtofhpfmgopmcmaaDoor
open Go.RowKit
set_option linter.unusedVariables false
set_option maxHeartbeats 400000

/-- Nothing but block g has turned, of what lay there. -/
def But (g : Nat) (a b : World) : Prop := a.grownBy b (some g)
theorem But.refl (g : Nat) (w : World) : But g w w := World.grownBy.refl w _
theorem But.trans {g : Nat} {a b c : World} (h : But g a b) (k : But g b c) : But g a c :=
  ⟨k.os.trans h.os, k.tape.trans h.tape, k.output.trans h.output, Nat.le_trans h.size k.size, fun i hi hne => (k.block i (Nat.lt_of_lt_of_le hi h.size) hne).trans (h.block i hi hne)⟩
theorem But.ext {g : Nat} {a b c : World} (h : But g a b) (k : Ext b c) : But g a c :=
  h.trans ⟨k.os, k.tape, k.output, k.size, fun i hi _ => k.block i hi⟩
theorem But.setCell {g : Nat} {a b : World} (h : But g a b) (j : Nat) (v : Value) : But g a (b.setCell ⟨g, j, none⟩ v) :=
  h.trans ⟨rfl, rfl, rfl, by simp [World.setCell], fun i hi hne => Below.heap_setCell _ _ _ _ (fun e => hne (by rw [e]))⟩
theorem But.drew {g : Nat} {a b : World} (h : But g a b) : But g a b.drew := ⟨h.os, h.tape, h.output, h.size, h.block⟩
theorem But.below {g B : Nat} {a b : World} (h : But g a b) (hB : B ≤ g) (ha : B ≤ a.heap.size) : Below B a b :=
  ⟨h.os, h.tape, h.output, h.size, fun i hi => h.block i (by omega) (fun e => by injection e; omega)⟩
theorem But.cell {g : Nat} {a b : World} (h : But g a b) {p : Addr} (hp : p.block < a.heap.size) (hne : p.block ≠ g) : b.cell? p = a.cell? p := World.cell?_of_block (h.block _ hp (fun e => hne (by injection e)))
theorem But.bx {g B : Nat} {a b : World} {f : Fd} (h : But g a b) (hx : Bx a B f) (hne : B ≠ g) : Bx b B f := by
  obtain ⟨h0, h1, h2, h3, h4, h5⟩ := hx
  have hc := fun o => h.cell (p := ⟨B, o, none⟩) h0 hne
  exact ⟨Nat.lt_of_lt_of_le h0 h.size, by rw [hc]; exact h1, by rw [hc]; exact h2, by rw [hc]; exact h3, by rw [hc]; exact h4, by rw [hc]; exact h5⟩
/-- A slice that begins at a block's head reads as these numbers. -/
def Rd (w : World) (q : Nat) (pw : List Nat) : Prop := q < w.heap.size ∧ ∀ j, j < pw.length → w.cell? ⟨q, j, none⟩ = some (.int .u32 (lb pw j : Nat))
theorem But.rd {g q : Nat} {a b : World} {pw : List Nat} (h : But g a b) (hx : Rd a q pw) (hne : q ≠ g) : Rd b q pw :=
  ⟨Nat.lt_of_lt_of_le hx.1 h.size, fun j hj => (h.cell (p := ⟨q, j, none⟩) hx.1 hne).trans (hx.2 j hj)⟩
theorem Own.rd {w : World} {base q n c : Nat} {o : List Nat} (h : Own w base (.slice (some ⟨q, 0, none⟩) n c) o) : Rd w q o := by
  obtain ⟨e, _, _⟩ := h.caps
  subst e
  exact ⟨h.block.2, fun j hj => h.cell hj⟩
theorem Own.frozen' {w : World} {base g n c : Nat} {o : List Nat} (h : Own w base (.slice (some ⟨g, 0, none⟩) n c) o) (j : Nat) : w.frozen? ⟨g, j, none⟩ = false := by
  obtain ⟨e, _, _⟩ := h.caps
  subst e
  exact h.frozen j
theorem Own.ext {w w' : World} {base g n c : Nat} {o : List Nat} (h : Own w base (.slice (some ⟨g, 0, none⟩) n c) o) (hB : Ext w w') : Own w' base (.slice (some ⟨g, 0, none⟩) n c) o :=
  h.below hB (fun g' hg => by injection hg with hg; subst hg; exact h.block.2)
theorem Own.set' {w : World} {base g n c : Nat} {o : List Nat} (h : Own w base (.slice (some ⟨g, 0, none⟩) n c) o) (j x : Nat) : Own (w.setCell ⟨g, j, none⟩ (.int .u32 (x : Nat))) base (.slice (some ⟨g, 0, none⟩) n c) (o.set j x) := by
  obtain ⟨e, _, _⟩ := h.caps
  subst e
  have := h.set_ j x
  rwa [List.length_set] at this

set_option maxRecDepth 100000 in
set_option maxHeartbeats 4000000 in
theorem down_calls (w : World) (f : Fd) (hf : Good f) (k W : Nat) (l pw : List Nat) (g q c base : Nat) (hk : k ≤ 20) (hr : Rt f.p W k) (hp : Pw f k W pw)
    (hl : l.length = 2 ^ k) (hlt : ∀ x ∈ l, x < f.p) (hown : Own w base (.slice (some ⟨g, 0, none⟩) l.length c) l) (hq : Rd w q pw) (hqg : q ≠ g) :
    Calls Tryd.prog 39 #[f.V, .slice (some ⟨g, 0, none⟩) l.length c, .slice (some ⟨q, 0, none⟩) pw.length pw.length] w fun e w' => e = .returned (.tuple #[]) ∧ (∃ o, DownL f k W l 0 o ∧ Own w' base (.slice (some ⟨g, 0, none⟩) o.length c) o) ∧ But g w w' := by
  have p0 := hf.p0
  have p1 := hf.p1
  have HX := Bx.new w f
  have hpl := hp.len
  obtain ⟨n, hn⟩ : ∃ n, 2 ^ k = n := ⟨_, rfl⟩
  have hn1 : n ≤ 1048576 := by rw [← hn]; exact Nat.pow_le_pow_right (by decide) hk
  have hn0 : 0 < n := by rw [← hn]; exact Nat.two_pow_pos k
  have hcap := hown.caps
  have hgb := hown.block
  have hB0 : But g w (w.alloc (.cells #[.int .u32 (f.p : Int), .int .u32 (f.root : Int), .int .u32 (f.neg : Int), .int .u32 (f.square : Int), .int .u32 (f.ahead : Int)] 56)) := (But.refl g w).ext ((Ext.refl w).alloc _)
  have hq0 := hB0.rd hq hqg
  have hown0 := hown.ext ((Ext.refl w).alloc (.cells #[.int .u32 (f.p : Int), .int .u32 (f.root : Int), .int .u32 (f.neg : Int), .int .u32 (f.square : Int), .int .u32 (f.ahead : Int)] 56))
  have hwg : w.heap.size ≠ g := by omega
  rw [hn] at hl hpl
  rw [hl] at hown0 hcap ⊢
  rw [hpl]
  have HS : Hid (DownL f k W l k l) := DownL.start f k W l (by rw [hl, hn]) hlt
  have HN := Lib.hid hn
  have HP := Lib.hid hp
  clear hn hown hq hp hlt hpl hl
  obtain ⟨hc1, hc2, hc3⟩ := hcap
  unfold maxLen at hc3
  obtain ⟨h0, hh0⟩ : ∃ h0, n / 2 = h0 := ⟨_, rfl⟩
  have hst : ((n : Nat) : Int) / 2 = (h0 : Int) := by omega
  have HH := Lib.hid hh0
  clear hh0
  unfold Fd.V
  go_enter Tryd.func39, Tryd.ntmps39
  go_wp2
  go_loopw [6] (fun h wr => ∃ (s : Nat) (o : List Nat), s ≤ k ∧ h = .int .i64 ((2 ^ s / 2 : Nat) : Int) ∧ Hid (DownL f k W l s o) ∧ Own wr base (.slice (some ⟨g, 0, none⟩) n c) o ∧ But g w wr ∧ Bx wr w.heap.size f ∧ Rd wr q pw) (fun h _ => (intOf h).toNat)
  case atStart => exact ⟨k, l, Nat.le_refl _, by rw [HN.out, HH.out], HS, hown0, hB0, HX, hq0⟩
  case round =>
    clear HX hq0 hown0 hB0 HS
    obtain ⟨s, o, hs, rfl, HS, hown, hB, HX, hq⟩ := hrel
    rcases s with _ | s
    · go_wp2
      go_end0
      exact ⟨rfl, ⟨o, HS.out, by rw [HS.out.len, HN.out]; exact hown⟩, hB⟩
    · obtain ⟨h, hh⟩ : ∃ h, 2 ^ s = h := ⟨_, rfl⟩
      rw [show 2 ^ (s + 1) / 2 = h by rw [Nat.pow_succ, hh]; omega]
      have hM : 2 ^ (k - (s + 1)) * (2 * h) = n := by rw [← hh, ← Nat.pow_succ', ← Nat.pow_add, ← HN.out]; congr 1; omega
      have hh0 : 0 < h := by rw [← hh]; exact Nat.two_pow_pos s
      obtain ⟨M, hMM⟩ : ∃ M, 2 ^ (k - (s + 1)) = M := ⟨_, rfl⟩
      rw [hMM] at hM
      have HMM := Lib.hid hMM
      clear hMM
      have hM0 : 0 < M := by rcases Nat.eq_zero_or_pos M with e | e; · rw [e] at hM; omega
                             · exact e
      have h2h : 2 * h ≤ n := by rw [← hM]; exact Nat.le_mul_of_pos_left _ hM0
      have HM := Lib.hid hM
      have HHH := Lib.hid hh
      have h2 : 2 * h - h = h := by omega
      have hoL : o.length = n := by rw [HS.out.len]; exact HN.out
      have HOL := Lib.hid hoL
      clear hM hh hst hoL
      go_wp2
      rw [h2]
      clear h2
      go_loopw [8] (fun a wr => ∃ (b A : Nat), b ≤ M ∧ Hid (A = b * (2 * h)) ∧ a = .int .i64 (A : Nat) ∧ A ≤ n ∧ Own wr base (.slice (some ⟨g, 0, none⟩) n c) (mid (stp f pw h) h b o) ∧ But g w wr ∧ Bx wr w.heap.size f ∧ Rd wr q pw) (fun a _ => n - (intOf a).toNat)
      case atStart => exact ⟨0, 0, Nat.zero_le _, by rw [Hid, Nat.zero_mul], rfl, Nat.zero_le _, hown, hB, HX, hq⟩
      case round =>
        clear hown hB HX hq
        obtain ⟨b, A, hb, HA, rfl, hAn, hown, hB, HX, hq⟩ := hrel
        by_cases hlt : A < n
        · have hA2 : A + 2 * h ≤ n := by
            have h1 := HA.out
            have h3 := HM.out
            have : b < M := by
              rcases Nat.lt_or_ge b M with h | h
              · exact h
              · have : b = M := by omega
                subst this; omega
            have := Nat.mul_le_mul_right (2 * h) (show b + 1 ≤ M from this)
            rw [Nat.add_mul, Nat.one_mul] at this
            omega
          have hbM : b + 1 ≤ M := by
            have h1 := HA.out
            have h3 := HM.out
            rcases Nat.lt_or_ge b M with h | h
            · exact h
            · have : b = M := by omega
              subst this; omega
          obtain ⟨o1, ho1⟩ : ∃ o1, mid (stp f pw h) h b o = o1 := ⟨_, rfl⟩
          have HO1 := Lib.hid ho1
          rw [ho1] at hown
          clear ho1
          go_wp2
          go_region
          go_wp2
          have hL1 : A + h - A = h := by omega
          have hL2 : A + 2 * h - (A + h) = h := by omega
          rw [hL1, hL2]
          clear hL1 hL2
          have P := stp_pair f hf pw h n
          have ho1L : Hid (o1.length = n) := by rw [Hid, ← HO1.out, mid_len P]; exact HOL.out
          have ho1p : Hid (∀ x ∈ o1, x < f.p) := by rw [Hid, ← HO1.out]; exact mid_lt P _ _ HS.out.lt
          go_loopw [52] (fun t wr => ∃ j : Nat, j ≤ h ∧ t = .int .i64 (j : Nat) ∧ Own wr base (.slice (some ⟨g, 0, none⟩) n c) (inn (stp f pw h) A j o1) ∧ But g w wr ∧ Bx wr w.heap.size f ∧ Rd wr q pw) (fun t _ => h - (intOf t).toNat)
          case atStart => exact ⟨0, Nat.zero_le _, rfl, hown, hB.drew, HX, hq⟩
          case round =>
            clear hown hB HX hq
            obtain ⟨j, hj, rfl, hown, hB, HX, hq⟩ := hrel
            by_cases hjh : j < h
            · obtain ⟨o2, ho2⟩ : ∃ o2, inn (stp f pw h) A j o1 = o2 := ⟨_, rfl⟩
              have ho2p : ∀ x ∈ o2, x < f.p := by rw [← ho2]; exact inn_lt P _ _ _ ho1p.out
              have ho2L : o2.length = n := by rw [← ho2, inn_len P]; exact ho1L.out
              have HO2L := Lib.hid ho2L
              have HST : Hid (inn (stp f pw h) A (j + 1) o1 = (o2.set (A + j) ((lb o2 (A + j) + lb o2 (A + h + j)) % f.p)).set (A + h + j) (mm f (lb o2 (A + j) + f.p - lb o2 (A + h + j)) (lb pw (h + j)))) := by
                rw [Hid, inn, ho2]; rfl
              rw [ho2] at hown
              have hx1 : lb o2 (A + j) < f.p := lb_lt_of (by omega) ho2p _
              have hx2 : lb o2 (A + h + j) < f.p := lb_lt_of (by omega) ho2p _
              have hx3 : lb pw (h + j) < f.p := lb_lt_of (by omega) HP.out.lt _
              have hr1 := hq.2 (h + j) (by rw [HP.out.len, HN.out]; omega)
              have hr2 := hown.rd.2 (A + j) (by omega)
              have hr3 := hown.rd.2 (A + h + j) (by omega)
              have hfr1 := hown.frozen' (A + j)
              obtain ⟨b0, b1, b2, b3, b4, b5⟩ := id HX
              generalize lb o2 (A + j) = x at *
              generalize lb o2 (A + h + j) = y at *
              generalize lb pw (h + j) = r at *
              clear ho2 ho2p ho2L ho1L ho1p HO1 P
              obtain ⟨d, hd⟩ : ∃ d, x + f.p - y = d := ⟨_, rfl⟩
              have hdi : (x : Int) + (f.p : Int) - (y : Int) = (d : Int) := by omega
              have hd2 : d < 4294967296 := by omega
              have HDD := Lib.hid hd
              clear hd
              go_wp2
              go_region
              go_wp2_with (fail)
              refine (add_calls _ f hf x y hx1 hx2).mono ?_
              rintro e w2 ⟨rfl, hB2⟩
              replace hB2 : Ext wr w2 := ((Ext.refl wr).drew).below hB2
              have hs2 := hown.ext hB2
              have hB3 := hB.ext hB2
              have hX2 := HX.ext hB2
              have hq2 : Rd w2 q pw := ((But.refl g wr).ext hB2).rd hq hqg
              have hf2 := hs2.frozen' (A + j)
              have hc4 := hs2.rd.2 (A + j) (by have := HO2L.out; omega)
              have hs3 := hs2.set' (A + j) ((x + y) % f.p)
              have hB4 := hB3.setCell (A + j) (.int .u32 ((x + y) % f.p : Nat))
              have hX3 := ((But.refl g w2).setCell (A + j) (.int .u32 ((x + y) % f.p : Nat))).bx hX2 hwg
              have hq3 := ((But.refl g w2).setCell (A + j) (.int .u32 ((x + y) % f.p : Nat))).rd hq2 hqg
              have hz : (x + y) % f.p < 4294967296 := Nat.lt_trans (Nat.mod_lt _ (by omega)) (by omega)
              generalize (x + y) % f.p = z at *
              clear hown hB HX hq hs2 hB3 hX2 hq2 b0 b1 b2 b3 b4 b5 hr2 hr3 hr1 hfr1
              obtain ⟨b0, b1, b2, b3, b4, b5⟩ := id hX3
              go_wp2_with (fail)
              refine (mul_calls _ f hf d r hd2 (by omega) (lt_prod hd2 hx3)).mono ?_
              rintro e w3 ⟨rfl, hB5⟩
              have hs5 := hs3.ext hB5
              have hB6 := hB4.ext hB5
              have hX5 := hX3.ext hB5
              have hq5 : Rd w3 q pw := ((But.refl g _).ext hB5).rd hq3 hqg
              have hf5 := hs5.frozen' (A + h + j)
              have hc5 := hs5.rd.2 (A + h + j) (by rw [List.length_set]; have := HO2L.out; omega)
              have hs6 := hs5.set' (A + h + j) (mm f d r)
              have hB7 := hB6.setCell (A + h + j) (.int .u32 (mm f d r : Nat))
              have hX6 := ((But.refl g w3).setCell (A + h + j) (.int .u32 (mm f d r : Nat))).bx hX5 hwg
              have hq6 := ((But.refl g w3).setCell (A + h + j) (.int .u32 (mm f d r : Nat))).rd hq5 hqg
              rw [HDD.out] at HST
              rw [← HST.out] at hs6
              generalize mm f d r = v at *
              clear hs3 hB4 hX3 hq3 hs5 hB6 hX5 hq5 hf2 hc4 b0 b1 b2 b3 b4 b5 HST hdi
              go_wp2_with (fail)
              go_roundw
              case rel => exact ⟨j + 1, by omega, by go_num, hs6, hB7, hX6, hq6⟩
              case measure => simp [intOf]; omega
            · obtain rfl : j = h := by omega
              have hfin : Hid (inn (stp f pw j) A j o1 = mid (stp f pw j) j (b + 1) o) := by rw [Hid, mid, ← HA.out, HO1.out]
              rw [hfin.out] at hown
              have hA3 : Hid (A + 2 * j = (b + 1) * (2 * j)) := by rw [Hid, Nat.add_mul, Nat.one_mul, HA.out]
              clear ho1L ho1p HO1 P hjh
              go_wp2
              go_roundw
              case rel => exact ⟨b + 1, A + 2 * j, by omega, hA3, by go_num, by omega, hown, hB, HX, hq⟩
              case measure => simp [intOf]; omega
        · obtain rfl : A = n := by omega
          have hbM : b = M := by
            have h1 := HA.out
            have h3 := HM.out
            rcases Nat.lt_or_ge b M with hbM | hbM
            · have := Nat.mul_lt_mul_of_pos_right hbM (show 0 < 2 * h by omega)
              omega
            · omega
          have HD : Hid (DownL f k W l s (mid (stp f pw h) h b o)) := by
            have := HS.out.step hf hr HP.out hs
            rw [HHH.out, HMM.out, ← hbM] at this
            exact this
          generalize mid (stp f pw h) h b o = o3 at *
          have hst2 : ((h : Nat) : Int) / 2 = ((h / 2 : Nat) : Int) := by omega
          obtain ⟨h5, hh5⟩ : ∃ h5, h / 2 = h5 := ⟨_, rfl⟩
          rw [hh5] at hst2
          have HH5 := Lib.hid hh5
          clear hh5 HA HM hlt
          go_wp2
          go_roundw
          case rel => exact ⟨s, o3, by omega, by rw [HHH.out, HH5.out], HD, hown, hB, HX, hq⟩
          case measure => simp [intOf]; omega
end Go.Proofs.YtofhpfmgopmcmaaDoor
