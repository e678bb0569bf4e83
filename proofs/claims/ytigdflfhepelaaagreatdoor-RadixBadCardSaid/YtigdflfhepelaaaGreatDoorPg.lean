/- A word of a quotient, guessed by three words of what is divided and two of the divisor. -/
import Derived.Test.YtigdflfhepelaaaGreatDoorPf
import Derived.Deep.RegionHeld3
import Derived.Deep.CutBlock
import Derived.WalkMore
import Derived.Deep.RegionLaw
import Derived.Maps.AppendAt
import Derived.Laws.Bits64

namespace Go.Proofs.YtigdflfhepelaaaGreatDoor
open Go.RowKit
set_option linter.unusedVariables false
set_option maxHeartbeats 400000

/-- A guess that is not below the word of the quotient; r is what the first word leaves. -/
structure GsX (V U v1 t1 q r : Nat) : Prop where
  inv : q * v1 + r = t1
  top : U < (q + 1) * V
  lt : q < 18446744073709551616

theorem gx_first (s vs : List Nat) (k q r v1 t1 : Nat) (hs : s.length = k + 2) (hv : vs.length = k + 1) (hx : ∀ x ∈ s, x < 18446744073709551616) (hv1 : lb vs k = v1) (ht : lb s (k + 1) * 18446744073709551616 + lb s k = t1) (hq : q * v1 + r = t1) (hr : r < v1)
    (hlt : q < 18446744073709551616) : GsX (wal vs) (wal s) v1 t1 q r := by
  refine ⟨hq, ?_, hlt⟩
  have h1 := wal_two s k hs
  have h2 := wal_one vs k hv
  have h3 := take_lt_pow s k (by omega) hx
  have ht' : lb s (k + 1) * BB + lb s k = t1 := ht
  rw [ht'] at h1
  rw [hv1] at h2
  have h4 : t1 + 1 ≤ (q + 1) * v1 := by rw [Nat.add_mul, Nat.one_mul]; omega
  have h5 := Nat.mul_le_mul_right (BB ^ k) h4
  have h6 : (q + 1) * wal vs = (q + 1) * v1 * BB ^ k + (q + 1) * wal (vs.take k) := by rw [h2, Nat.mul_add, Nat.mul_assoc]
  rw [Nat.add_mul t1, Nat.one_mul] at h5
  omega
theorem gx_full (V U v1 u1 t1 : Nat) (h1 : v1 * 18446744073709551616 + u1 = t1) (hUV : U < BB * V) : GsX V U v1 t1 18446744073709551615 (u1 + v1) :=
  ⟨by omega, by simpa [BB] using hUV, by decide⟩
theorem gx_gs {V U v1 t1 q r : Nat} (h : GsX V U v1 t1 q r) (P D T v0 u0 : Nat) : GsI BB P D T V U v1 v0 t1 u0 q r := ⟨h.inv, h.top, h.lt⟩
theorem gx_down (s vs : List Nat) (k q r v1 v0 u0 t1 : Nat) (hs : s.length = k + 3) (hv : vs.length = k + 2) (hx : ∀ x ∈ s, x < 18446744073709551616) (hv1 : lb vs (k + 1) = v1) (hv0 : lb vs k = v0) (hu0 : lb s k = u0)
    (ht : lb s (k + 2) * 18446744073709551616 + lb s (k + 1) = t1) (h : GsX (wal vs) (wal s) v1 t1 q r) (hgt : r * 18446744073709551616 + u0 < q * v0) : 1 ≤ q ∧ GsX (wal vs) (wal s) v1 t1 (q - 1) (r + v1) := by
  have h1 := wal_three s k hs
  have h2 := wal_two vs k hv
  have h3 := take_lt_pow s k (by omega) hx
  have ht' : lb s (k + 2) * BB + lb s (k + 1) = t1 := ht
  rw [ht', hu0] at h1
  rw [hv1, hv0] at h2
  obtain ⟨a, b⟩ := gs_down BB (BB ^ k) (v1 * BB + v0) (t1 * BB + u0) (wal vs) (wal s) v1 v0 (wal (vs.take k)) t1 u0 (wal (s.take k)) q r rfl rfl h2 h1 h3 (gx_gs h _ _ _ _ _) hgt
  exact ⟨a, b.inv, b.top, b.lt⟩
theorem gx_end (s vs : List Nat) (k q r v1 v0 u0 t1 : Nat) (hs : s.length = k + 3) (hv : vs.length = k + 2) (hx : ∀ x ∈ vs, x < 18446744073709551616) (hv1 : lb vs (k + 1) = v1) (hv0 : lb vs k = v0) (hu0 : lb s k = u0)
    (ht : lb s (k + 2) * 18446744073709551616 + lb s (k + 1) = t1) (h : GsX (wal vs) (wal s) v1 t1 q r) (h1v : 1 ≤ v1) (hle : q * v0 ≤ r * 18446744073709551616 + u0) : q * wal vs ≤ wal s + wal vs := by
  have h1 := wal_three s k hs
  have h2 := wal_two vs k hv
  have h3 := take_lt_pow vs k (by omega) hx
  have ht' : lb s (k + 2) * BB + lb s (k + 1) = t1 := ht
  rw [ht', hu0] at h1
  rw [hv1, hv0] at h2
  exact gs_end BB (BB ^ k) (v1 * BB + v0) (t1 * BB + u0) (wal vs) (wal s) v1 v0 (wal (vs.take k)) t1 u0 (wal (s.take k)) q r rfl rfl h2 h1 (by omega) (by have := Nat.mul_le_mul_right BB h1v; omega) (gx_gs h _ _ _ _ _) hle
theorem gx_one (s vs : List Nat) (q r v1 t1 : Nat) (hs : s.length = 2) (hv : vs.length = 1) (hv1 : lb vs 0 = v1) (ht : lb s 1 * 18446744073709551616 + lb s 0 = t1) (h : GsX (wal vs) (wal s) v1 t1 q r) : q * wal vs ≤ wal s + wal vs := by
  have h1 := wal_two s 0 hs
  have h2 := wal_one vs 0 hv
  have ht' : lb s (0 + 1) * BB + lb s 0 = t1 := ht
  rw [ht', Nat.pow_zero, List.take_zero] at h1
  rw [hv1, Nat.pow_zero, List.take_zero] at h2
  have e0 : wal [] = 0 := rfl
  rw [e0] at h1 h2
  rw [h2, h1]
  have := h.inv
  simp only [Nat.mul_one, Nat.add_zero]
  omega

theorem i64_fit {k : Nat} (h : k ≤ 1000000) : IntKind.i64.wrap (k : Int) = (k : Int) := by rw [IntKind.wrap_i64]; omega
theorem u64_fit {k : Nat} (h : k < 18446744073709551616) : IntKind.u64.wrap (k : Int) = (k : Int) := by rw [IntKind.wrap_u64]; omega
theorem u64_mod {k : Nat} (h : k < 18446744073709551616) : (k : Int) % 18446744073709551616 = (k : Int) := by omega
theorem sub_one (z y s c : Nat) (hz : z < 18446744073709551616) (hy : y < 18446744073709551616) (hs : (z + 18446744073709551616 - y - 0) % 18446744073709551616 = s) (hc : (if z < y + 0 then 1 else 0) = c) : s + y = z + 18446744073709551616 * c := by
  split at hc <;> omega
/-- Two cells are kept. -/
theorem keep2 {w x y : World} {p q : Addr} {v1 v2 : Value} (hp : p.block < w.heap.size) (hq : q.block < w.heap.size) (h : (x.cell? p = some v1 ∧ x.cell? q = some v2) ∧ Ext w x) (hB : Ext x y) : (y.cell? p = some v1 ∧ y.cell? q = some v2) ∧ Ext w y := by
  obtain ⟨⟨h0, h1⟩, h2⟩ := h
  have hs := h2.size
  exact ⟨⟨by rw [hB.cell (by omega)]; exact h0, by rw [hB.cell (by omega)]; exact h1⟩, h2.below hB⟩

set_option maxRecDepth 100000 in
set_option maxHeartbeats 8000000 in
theorem guess_calls (w : World) (g1 g2 : Nat) (vu vv : Value) (s vs : List Nat) (hu : V g1 w vu s) (hv : V g2 w vv vs) (n k : Nat) (hk : n = k + 1) (hs : s.length = n + 1) (hvs : vs.length = n) (hn : n ≤ 1000000)
    (top : 9223372036854775808 ≤ lb vs k) (hlt : wal s < BB * wal vs) :
    Calls Tryz.prog 115 #[vu, vv] w fun e w' => (∃ q, e = .returned (.int .u64 (q : Nat)) ∧ q < 18446744073709551616 ∧ wal s < (q + 1) * wal vs ∧ q * wal vs ≤ wal s + wal vs) ∧ Ext w w' := by
  have hxs := hu.lim
  have hxv := hv.lim
  have hle := top_le s vs k (by omega) (by omega) hxv hlt
  obtain ⟨au, cu, rfl, hcu, hbu, hgu, hcellu⟩ := hu.opened (n := n + 1) hs (by omega)
  obtain ⟨av, cv, rfl, hcv, hbv, hgv, hcellv⟩ := hv.opened (n := n) hvs (by omega)
  obtain ⟨v1, hv1⟩ : ∃ v1, lb vs k = v1 := ⟨_, rfl⟩
  obtain ⟨u1, hu1⟩ : ∃ u1, lb s k = u1 := ⟨_, rfl⟩
  obtain ⟨u2, hu2⟩ : ∃ u2, lb s (k + 1) = u2 := ⟨_, rfl⟩
  obtain ⟨t1, ht1⟩ : ∃ t1, u2 * 18446744073709551616 + u1 = t1 := ⟨_, rfl⟩
  have cv1 := hcellv k (by omega)
  have cu1 := hcellu k (by omega)
  have cu2 := hcellu n (by omega)
  have hv1b : v1 < 18446744073709551616 := by rw [← hv1]; exact lb_lt_of (by decide) hxv k
  have hu1b : u1 < 18446744073709551616 := by rw [← hu1]; exact lb_lt_of (by decide) hxs k
  have hu2b : u2 < 18446744073709551616 := by rw [← hu2]; exact lb_lt_of (by decide) hxs (k + 1)
  rw [hv1] at cv1 hle top
  rw [hu1] at cu1
  rw [hk] at cu2
  rw [hu2, ← hk] at cu2
  rw [hu2] at hle
  have HA : Hid (∀ q r, q * v1 + r = t1 → r < v1 → q < 18446744073709551616 → GsX (wal vs) (wal s) v1 t1 q r) := fun q r h1 h2 h3 => gx_first s vs k q r v1 t1 (by omega) (by omega) hxs hv1 (by rw [hu2, hu1]; exact ht1) h1 h2 h3
  have HF : Hid (u2 = v1 → GsX (wal vs) (wal s) v1 t1 18446744073709551615 (u1 + v1)) := fun e => gx_full _ _ v1 u1 t1 (by rw [← e]; exact ht1) hlt
  have HD : Hid (∀ j v0 u0 q r, n = j + 2 → lb vs j = v0 → lb s j = u0 → GsX (wal vs) (wal s) v1 t1 q r → r * 18446744073709551616 + u0 < q * v0 → 1 ≤ q ∧ GsX (wal vs) (wal s) v1 t1 (q - 1) (r + v1)) := fun j v0 u0 q r hj h1 h2 h3 h4 =>
    gx_down s vs j q r v1 v0 u0 t1 (by omega) (by omega) hxs (by rw [← hv1]; congr 1; omega) h1 h2 (by rw [show j + 2 = k + 1 by omega, show j + 1 = k by omega, hu2, hu1]; exact ht1) h3 h4
  have HE : Hid (∀ j v0 u0 q r, n = j + 2 → lb vs j = v0 → lb s j = u0 → GsX (wal vs) (wal s) v1 t1 q r → q * v0 ≤ r * 18446744073709551616 + u0 → q * wal vs ≤ wal s + wal vs) := fun j v0 u0 q r hj h1 h2 h3 h4 =>
    gx_end s vs j q r v1 v0 u0 t1 (by omega) (by omega) hxv (by rw [← hv1]; congr 1; omega) h1 h2 (by rw [show j + 2 = k + 1 by omega, show j + 1 = k by omega, hu2, hu1]; exact ht1) h3 (by omega) h4
  have HO : Hid (n = 1 → ∀ q r, GsX (wal vs) (wal s) v1 t1 q r → q * wal vs ≤ wal s + wal vs) := fun e q r h => by
    have e0 : k = 0 := by omega
    rw [e0] at hv1 hu1 hu2
    exact gx_one s vs q r v1 t1 (by omega) (by omega) hv1 (by rw [hu2, hu1]; exact ht1) h
  have HDV : Hid (u2 < v1 → ∃ q r, (u2 * 18446744073709551616 + u1) / v1 = q ∧ (u2 * 18446744073709551616 + u1) % v1 = r ∧ q * v1 + r = t1 ∧ r < v1 ∧ q < 18446744073709551616) := fun h => by
    refine ⟨_, _, rfl, rfl, by rw [← ht1, Nat.mul_comm (_ / _)]; exact Nat.div_add_mod _ _, Nat.mod_lt _ (by omega), ?_⟩
    exact Nat.div_lt_of_lt_mul (by have := Nat.mul_le_mul_right 18446744073709551616 (show u2 + 1 ≤ v1 from h); omega)
  have HLV : Hid (∀ j, lb vs j < 18446744073709551616) := fun j => lb_lt_of (by decide) hxv j
  have HLS : Hid (∀ j, lb s j < 18446744073709551616) := fun j => lb_lt_of (by decide) hxs j
  have HCV := Lib.hid hcellv
  have HCU := Lib.hid hcellu
  have e1 : (n : Int) - 1 = (k : Int) := by omega
  have e2 : k < n := by omega
  have e3 : (n : Int) < (n : Int) + 1 := by omega
  have e4 : (k : Int) < (n : Int) + 1 := by omega
  have e5 : k < n + 1 := by omega
  obtain ⟨r0, hr0⟩ : ∃ r0, (u1 + v1) % 18446744073709551616 = r0 := ⟨_, rfl⟩
  have a1 : ((u1 : Int) + (v1 : Int)) % 18446744073709551616 = (r0 : Int) := by omega
  have a2 : IntKind.u64.wrap ((u1 : Int) + (v1 : Int)) = (r0 : Int) := by rw [IntKind.wrap_u64]; exact a1
  have hr0b : r0 < 18446744073709551616 := by omega
  have a3 : IntKind.u64.wrap (r0 : Int) = (r0 : Int) := by rw [IntKind.wrap_u64]; omega
  have HR0 := Lib.hid hr0
  have HT := Lib.hid (And.intro hv1b (And.intro hu1b (And.intro hu2b (And.intro hle (And.intro top hr0b)))))
  have k1 := i64_fit (show k ≤ 1000000 by omega)
  have k2 := i64_fit hn
  have k3 : (0 : Int) ≤ (k : Int) := Int.natCast_nonneg k
  have k4 : (0 : Int) ≤ (n : Int) := Int.natCast_nonneg n
  have hE0 := Ext.refl w
  have HK := Lib.hid hk
  clear hk hxs hxv hlt hv hu hs hvs hcellu hcellv hu1 hu2 hv1 ht1 hv1b hu1b hu2b hle top hr0 hr0b hcu hcv hgu hgv
  obtain ⟨b0, hb0⟩ : ∃ b0 : Bool, decide (r0 < v1) = b0 := ⟨_, rfl⟩
  have HB0 := Lib.hid hb0
  go_enter Tryz.func115, Tryz.ntmps115
  go_wp2
  go_step3
  go_wp2_with (fail)
  go_region
  go_upto_if 34 with (fail)
  have hS0 : (w.drew.drew.cell? (au.add n) = some (.int .u64 (u2 : Nat)) ∧ w.drew.drew.cell? (au.add k) = some (.int .u64 (u1 : Nat))) ∧ Ext w w.drew.drew := ⟨⟨cu2, cu1⟩, hE0.drew.drew⟩
  have hpn : (au.add n).block < w.heap.size := by rw [addr_add_block]; exact hbu
  have hpk : (au.add k).block < w.heap.size := by rw [addr_add_block]; exact hbu
  go_cut [7, 8, 9] from 12 (fun s7 s8 s9 wx => ∃ (q r r' : Nat) (b : Bool), s7 = .int .u64 (q : Nat) ∧ s8 = .int .u64 (r' : Nat) ∧ s9 = .bool b ∧ Hid (GsX (wal vs) (wal s) v1 t1 q r ∧ r % 18446744073709551616 = r' ∧ decide (18446744073709551616 ≤ r) = b) ∧ Ext w wx)
  case first =>
    obtain ⟨hv1b, hu1b, hu2b, hle, top, hr0b⟩ := HT.out
    by_cases h : u2 < v1
    · obtain ⟨q, r, h1, h2, h3, h4, h5⟩ := HDV.out h
      have hdv := Lib.hid (fun W => div64_calls W u2 u1 v1 q r top hv1b hu1b h h1 h2)
      have HG : Hid (GsX (wal vs) (wal s) v1 t1 q r ∧ r % 18446744073709551616 = r ∧ decide (18446744073709551616 ≤ r) = false) := ⟨HA.out q r h3 h4 h5, Nat.mod_eq_of_lt (by omega), by rw [decide_eq_false_iff_not]; omega⟩
      clear hv1b hu1b hu2b hle top hr0b h1 h2 h3 h4 h5
      go_wp2_with (fail)
      go_region_held3 (fun X => (X.cell? (au.add n) = some (.int .u64 (u2 : Nat)) ∧ X.cell? (au.add k) = some (.int .u64 (u1 : Nat))) ∧ Ext w X)
        (first
          | exact hS0
          | exact keep2 hpn hpk (by assumption) (by assumption))
        (first
          | (go_at_call 142; ((with_reducible refine (hdv.out _).mono ?_); rintro e w1 ⟨rfl, hB⟩)))
      go_wp2_with (fail)
      go_meet
      case rel =>
        go_split_ands
        exact ⟨q, r, r, false, rfl, rfl, rfl, HG, by assumption⟩
    · have e : u2 = v1 := by omega
      have HG : Hid (GsX (wal vs) (wal s) v1 t1 18446744073709551615 (u1 + v1) ∧ (u1 + v1) % 18446744073709551616 = r0 ∧ decide (18446744073709551616 ≤ u1 + v1) = b0) := ⟨HF.out e, HR0.out, by rw [← HB0.out]; have := HR0.out; exact decide_eq_decide.2 ⟨fun g => by omega, fun g => by omega⟩⟩
      clear hv1b hu1b hu2b hle top hr0b e
      go_wp2_with (fail)
      go_meet
      case rel => exact ⟨18446744073709551615, u1 + v1, r0, b0, rfl, rfl, rfl, HG, hE0.drew⟩
  case rest =>
    obtain ⟨q, r, r', b, rfl, rfl, rfl, HG, hE⟩ := hcut
    clear hS0 cu1 cu2 cv1 a1 a2 a3 hE0 hb0 HDV HA HF HB0 HR0
    by_cases h1 : n = 1
    · have hn1 : ((n : Int) == 1) = true := by rw [beq_iff_eq]; omega
      have HFN : Hid (∃ q', Ending.returned (.int .u64 (q : Nat)) = .returned (.int .u64 (q' : Nat)) ∧ q' < 18446744073709551616 ∧ wal s < (q' + 1) * wal vs ∧ q' * wal vs ≤ wal s + wal vs) := ⟨q, rfl, HG.out.1.lt, HG.out.1.top, HO.out h1 q r HG.out.1⟩
      clear HG HD HE HO hpn hpk
      go_wp2
      rw [Exit.noGoto_ret]
      go_ret
      exact ⟨HFN.out, hE⟩
    · obtain ⟨j, hj⟩ : ∃ j, n = j + 2 := ⟨n - 2, by have := HK.out; omega⟩
      have hn1 : ((n : Int) == 1) = false := by rw [beq_eq_false_iff_ne]; omega
      have hn2 : ¬ ((n : Int) = 1) := by omega
      obtain ⟨v0, hv0⟩ : ∃ v0, lb vs j = v0 := ⟨_, rfl⟩
      obtain ⟨u0, hu0⟩ : ∃ u0, lb s j = u0 := ⟨_, rfl⟩
      have cv0 := HCV.out j (by omega)
      have cu0 := HCU.out j (by omega)
      have hv0b := HLV.out j
      have hu0b := HLS.out j
      rw [hv0] at cv0 hv0b
      rw [hu0] at cu0 hu0b
      have HD2 := Lib.hid (fun q r => HD.out j v0 u0 q r hj hv0 hu0)
      have HE2 := Lib.hid (fun q r => HE.out j v0 u0 q r hj hv0 hu0)
      have f1 : (n : Int) - 2 = (j : Int) := by omega
      have f2 : j < n := by omega
      have f3 : j < n + 1 := by omega
      have HB := Lib.hid (And.intro hv0b hu0b)
      have hpv : (av.add j).block < w.heap.size := by rw [addr_add_block]; exact hbv
      have hpu : (au.add j).block < w.heap.size := by rw [addr_add_block]; exact hbu
      clear hj hv0 hu0 hv0b hu0b HD HE HO HCV HCU HLV HLS HK
      go_wp2
      go_step3
      go_wp2
      go_loopw [7, 8, 9] (fun s7 s8 s9 wr => ∃ (q r r' : Nat) (b : Bool), s7 = .int .u64 (q : Nat) ∧ s8 = .int .u64 (r' : Nat) ∧ s9 = .bool b ∧ Hid (GsX (wal vs) (wal s) v1 t1 q r ∧ r % 18446744073709551616 = r' ∧ decide (18446744073709551616 ≤ r) = b) ∧ Ext w wr) (fun s7 _ _ _ => (intOf s7).toNat)
      case atStart => exact ⟨q, r, r', b, rfl, rfl, rfl, HG, hE⟩
      case round =>
        clear HG hE
        obtain ⟨q, r, r', b, rfl, rfl, rfl, HG, hE⟩ := hrel
        obtain ⟨hg, hr, hb⟩ := HG.out
        obtain ⟨hv0b, hu0b⟩ := HB.out
        obtain ⟨hv1b, -⟩ := HT.out
        have hql := hg.lt
        cases b with
        | true =>
          rw [decide_eq_true_iff] at hb
          have HFN : Hid (∃ q', Ending.returned (.int .u64 (q : Nat)) = .returned (.int .u64 (q' : Nat)) ∧ q' < 18446744073709551616 ∧ wal s < (q' + 1) * wal vs ∧ q' * wal vs ≤ wal s + wal vs) := ⟨q, rfl, hql, hg.top, HE2.out q r hg (by
            have e1 : q * v0 ≤ 18446744073709551616 * 18446744073709551616 := Nat.mul_le_mul (by omega) (by omega)
            have e2 : 18446744073709551616 * 18446744073709551616 ≤ r * 18446744073709551616 := Nat.mul_le_mul_right _ hb
            omega)⟩
          clear hg hr hb hv0b hu0b hv1b hql HG HD2 HE2
          go_wp2
          rw [Exit.noGoto_ret]
          go_ret
          exact ⟨HFN.out, hE⟩
        | false =>
          rw [decide_eq_false_iff_not] at hb
          obtain rfl : r' = r := by omega
          have cv0' := (hE.cell hpv).trans cv0
          have cu0' := (hE.cell hpu).trans cu0
          obtain ⟨p, hp⟩ : ∃ p, q * v0 = p := ⟨_, rfl⟩
          have hpb : p ≤ 340282366920938463426481119284349108225 := by rw [← hp]; exact sq64 hql hv0b
          obtain ⟨ph, hph⟩ : ∃ ph, p / 18446744073709551616 = ph := ⟨_, rfl⟩
          obtain ⟨pl, hpl⟩ : ∃ pl, p % 18446744073709551616 = pl := ⟨_, rfl⟩
          have hMul : Hid (∀ W, Calls Tryz.prog 116 #[.int .u64 (q : Nat), .int .u64 (v0 : Nat)] W fun e w' => e = .returned (.tuple #[.int .u64 (ph : Nat), .int .u64 (pl : Nat)]) ∧ w' = W) := by
            intro W
            have := mul64_calls q v0 hql hv0b W
            rw [hp, hph, hpl] at this
            exact this
          by_cases hle : p ≤ r' * 18446744073709551616 + u0
          · have HFN : Hid (∃ q', Ending.returned (.int .u64 (q : Nat)) = .returned (.int .u64 (q' : Nat)) ∧ q' < 18446744073709551616 ∧ wal s < (q' + 1) * wal vs ∧ q' * wal vs ≤ wal s + wal vs) := ⟨q, rfl, hql, hg.top, HE2.out q r' hg (by rw [hp]; exact hle)⟩
            rcases (show ph < r' ∨ ph = r' ∧ pl ≤ u0 by omega) with h | ⟨h, h2⟩
            · clear hle hpb hph hpl hp hql hg hr hb hv0b hu0b hv1b HG HD2 HE2
              go_wp2_with (fail)
              refine (hMul.out _).mono ?_
              rintro e w' ⟨rfl, rfl⟩
              clear hMul
              go_wp2
              rw [Exit.noGoto_ret]
              go_ret
              exact ⟨HFN.out, hE⟩
            · subst h
              have h3 : ¬ ph < ph := by omega
              have h4 : ((ph : Int) == (ph : Int)) = true := by rw [beq_iff_eq]
              clear hle hpb hph hpl hp hql hg hr hb hv0b hu0b hv1b HG HD2 HE2
              go_wp2_with (fail)
              refine (hMul.out _).mono ?_
              rintro e w' ⟨rfl, rfl⟩
              clear hMul
              go_wp2
              rw [Exit.noGoto_ret]
              go_ret
              exact ⟨HFN.out, hE⟩
          · obtain ⟨hq1, hg2⟩ := HD2.out q r' hg (by rw [hp]; omega)
            obtain ⟨q2, hq2⟩ : ∃ q2, q - 1 = q2 := ⟨_, rfl⟩
            rw [hq2] at hg2
            obtain ⟨r2, hr2⟩ : ∃ r2, (r' + v1) % 18446744073709551616 = r2 := ⟨_, rfl⟩
            obtain ⟨b2, hb2⟩ : ∃ b2 : Bool, decide (r2 < v1) = b2 := ⟨_, rfl⟩
            have HG2 : Hid (GsX (wal vs) (wal s) v1 t1 q2 (r' + v1) ∧ (r' + v1) % 18446744073709551616 = r2 ∧ decide (18446744073709551616 ≤ r' + v1) = b2) := ⟨hg2, hr2, by rw [← hb2]; exact decide_eq_decide.2 ⟨fun g => by omega, fun g => by omega⟩⟩
            have g1 : (q : Int) - 1 = (q2 : Int) := by omega
            have g2 : (q2 : Int) % 18446744073709551616 = (q2 : Int) := by omega
            have g3 : IntKind.u64.wrap (q2 : Int) = (q2 : Int) := by rw [IntKind.wrap_u64]; omega
            have g4 : ((r' : Int) + (v1 : Int)) % 18446744073709551616 = (r2 : Int) := by omega
            have g5 : IntKind.u64.wrap ((r' : Int) + (v1 : Int)) = (r2 : Int) := by rw [IntKind.wrap_u64]; exact g4
            have HQ : Hid (q2 < q) := by show q2 < q; omega
            have h3 : ¬ ph < r' := by omega
            rcases (show ¬ ph = r' ∨ ph = r' ∧ ¬ pl ≤ u0 by omega) with h | ⟨h, h2⟩
            · have h4 : ((ph : Int) == (r' : Int)) = false := by rw [beq_eq_false_iff_ne]; omega
              clear hle hpb hph hpl hp hql hg hr hb hv0b hu0b hv1b HG HD2 HE2 hq1 hg2 hq2 hr2
              go_wp2_with (fail)
              refine (hMul.out _).mono ?_
              rintro e w' ⟨rfl, rfl⟩
              clear hMul
              go_wp2
              go_roundw
              case rel => exact ⟨q2, r' + v1, r2, b2, rfl, rfl, by first | rfl | exact congrArg Value.bool hb2, HG2, hE⟩
              case measure => have := HQ.out; simp [intOf]; omega
            · subst h
              have h4 : ((ph : Int) == (ph : Int)) = true := by rw [beq_iff_eq]
              have h5 : decide ((pl : Int) ≤ (u0 : Int)) = false := by rw [decide_eq_false_iff_not]; omega
              clear hle hpb hph hpl hp hql hg hr hb hv0b hu0b hv1b HG HD2 HE2 hq1 hg2 hq2 hr2
              go_wp2_with (fail)
              refine (hMul.out _).mono ?_
              rintro e w' ⟨rfl, rfl⟩
              clear hMul
              go_wp2
              go_roundw
              case rel => exact ⟨q2, ph + v1, r2, b2, rfl, rfl, by first | rfl | exact congrArg Value.bool hb2, HG2, hE⟩
              case measure => have := HQ.out; simp [intOf]; omega
end Go.Proofs.YtigdflfhepelaaaGreatDoor
/- A word of a quotient, and what is left. -/
namespace Go.Proofs.YtigdflfhepelaaaGreatDoor
open Go.RowKit
set_option linter.unusedVariables false
set_option maxHeartbeats 400000

theorem addr_off (g off j : Nat) : (⟨g, off, none⟩ : Addr).add j = ⟨g, off + j, none⟩ := by
  unfold Addr.add
  by_cases h : j = 0 <;> simp [h]
/-- A part of a row is read. -/
theorem Ow.part {w : World} {base g n c : Nat} {pre s post : List Nat} (h : Ow w base (.slice (some ⟨g, 0, none⟩) n c) (Sg pre s post)) {off m zc : Nat} (hpre : pre.length = off) (hs : s.length = m) (hx : ∀ x ∈ s, x < 18446744073709551616) (hn : n ≤ 1000000) (hzc : m ≤ zc) (q : Nat) (hq : g ≠ q) :
    V q w (.slice (some ⟨g, off, none⟩) m zc) s := by
  obtain ⟨e, h1, h2⟩ := h.caps
  rw [sg_len] at e
  refine ⟨_, zc, by rw [hs], ⟨by omega, by omega⟩, hx, fun h0 => ⟨_, rfl, h.block.2, hq, fun j hj => ?_⟩⟩
  rw [addr_off, h.cell (j := off + j) (by omega), sg_lb _ _ _ _ _ hpre hj]
theorem sg_lt {pre s post : List Nat} {b : Nat} (h : ∀ x ∈ Sg pre s post, x < b) : ∀ x ∈ s, x < b := fun x hx => h x (by unfold Sg; simp [hx])

theorem dg_lt (n T : Nat) (s0 s : List Nat) (bo t : Nat) (h : DgI (n + 1) (wal s0) T n s0 s bo) (ht : lb s0 n = t) (hb : t < bo) : wal s0 < T := by
  have h1 := wal_lt_top s n h.len h.lt
  rw [h.out n (Nat.le_refl _), ht] at h1
  have h2 := h.val
  have h3 : BB ^ n * (t + 1) ≤ BB ^ n * bo := Nat.mul_le_mul_left _ hb
  omega
/-- What is left at the end, either way. -/
theorem dg_end1 (V q A S : Nat) (h : S + V * q = A) (ht : A < (q + 1) * V) : q * V + S = A ∧ S < V := by
  rw [Nat.mul_comm V q] at h
  rw [Nat.add_mul, Nat.one_mul] at ht
  omega
theorem dg_end2 (V q1 A S : Nat) (h : S + q1 * V = A) (ht : A < V * (q1 + 1)) : q1 * V + S = A ∧ S < V := by
  rw [Nat.mul_add, Nat.mul_one, Nat.mul_comm V q1] at ht
  omega

set_option maxRecDepth 100000 in
set_option maxHeartbeats 8000000 in
theorem digit_calls (w : World) (g base N c off zc : Nat) (pre s post vs : List Nat) (vv : Value) (hown : Ow w base (.slice (some ⟨g, 0, none⟩) N c) (Sg pre s post)) (hx : ∀ x ∈ s, x < 18446744073709551616) (hpre : pre.length = off)
    (m k : Nat) (hk : m = k + 1) (hs : s.length = m + 1) (hvs : vs.length = m) (hzc : m + 1 ≤ zc) (hN : N ≤ 1000000) (hv : V g w vv vs) (top : 9223372036854775808 ≤ lb vs k) (hlt : wal s < BB * wal vs) :
    Calls Tryz.prog 103 #[.slice (some ⟨g, off, none⟩) (m + 1 : Nat) zc, vv] w fun e w' => (∃ q s', e = .returned (.int .u64 (q : Nat)) ∧ q < 18446744073709551616 ∧ s'.length = m + 1 ∧ (∀ x ∈ s', x < 18446744073709551616) ∧ q * wal vs + wal s' = wal s ∧ wal s' < wal vs ∧
      Ow w' base (.slice (some ⟨g, 0, none⟩) N c) (Sg pre s' post)) ∧ But g w w' := by
  obtain ⟨hcap, hcap1, hcap2⟩ := hown.caps
  rw [sg_len, hpre, hs] at hcap
  have hu : V (g + 1) w (.slice (some ⟨g, off, none⟩) (m + 1) zc) s := hown.part hpre hs hx hN hzc (g + 1) (by omega)
  have hGu := Lib.hid (guess_calls w (g + 1) g _ vv s vs hu hv m k hk hs hvs (by omega) top hlt)
  have hgb := hown.block.2
  have HPRE := Lib.hid hpre
  have HS := Lib.hid hs
  have hxv := hv.lim
  have HXV : Hid (∀ j, lb vs j < 18446744073709551616) := fun j => lb_lt_of (by decide) hxv j
  have HTK := Lib.hid (fun j (h : j < m) => wal_take_succ vs j (by omega))
  have HT2 : Hid (vs.take m = vs) := by rw [Hid, ← hvs]; exact List.take_length
  have HD0 : Hid (∀ q, DgI (m + 1) (wal s) (wal (vs.take 0) * q) 0 s s 0) := fun q => ⟨hs, hx, by decide, by simp [wal], fun m _ => rfl⟩
  have HT0 : Hid (lb s m < 18446744073709551616) := lb_lt_of (by decide) hx m
  obtain ⟨t, ht⟩ : ∃ t, lb s m = t := ⟨_, rfl⟩
  have HT := Lib.hid ht
  have hoff : off + m < N := by omega
  have hm1 : m ≤ 1000000 := by omega
  obtain ⟨av, cv, rfl, hcv, hbv, hgv, hcellv⟩ := hv.opened (n := m) hvs (by omega)
  have hmi : ((m + 1 : Nat) : Int) = (m : Int) + 1 := by omega
  have e3 : (m : Int) < (m : Int) + 1 := by omega
  have e4 : m ≤ zc := by omega
  have e5 : (m : Int) ≤ (zc : Int) := by omega
  clear hu hv hx hpre hs hvs top hlt hcap hcap1 hcap2 ht hxv hk
  go_enter Tryz.func103, Tryz.ntmps103
  go_wp2_with (fail)
  refine hGu.out.mono ?_
  rintro e w1 ⟨⟨q, rfl, hq, hq1, hq2⟩, hB⟩
  have hB0 : But g w w1 := (But.refl g w).ext hB
  replace hown := hown.ext hB
  have HQ1 := Lib.hid hq1
  have HQ2 := Lib.hid hq2
  clear hB hq1 hq2 hGu
  go_wp2
  go_loopw [29, 7] (fun t7 s7 wr => ∃ (i : Nat) (s' : List Nat) (bo : Nat), i ≤ m ∧ t7 = .int .i64 (i : Nat) ∧ s7 = .int .u64 (bo : Nat) ∧ Hid (DgI (m + 1) (wal s) (wal (vs.take i) * q) i s s' bo) ∧ Ow wr base (.slice (some ⟨g, 0, none⟩) N c) (Sg pre s' post) ∧ But g w wr) (fun t7 _ _ => m - (intOf t7).toNat)
  case atStart => exact ⟨0, s, 0, Nat.zero_le _, rfl, rfl, HD0.out q, hown, hB0⟩
  case round =>
    clear hown hB0
    obtain ⟨i, s', bo, hi, rfl, rfl, HO, hown, hB⟩ := hrel
    by_cases hlt : i < m
    · have hc0 := (hB.cell (p := av.add i) (by rw [addr_add_block]; exact hbv) (by rw [addr_add_block]; exact hgv)).trans (hcellv i hlt)
      have hy := HXV.out i
      have htk := HTK.out i hlt
      have hl := HO.out.len
      have hcz := hown.cell (j := off + i) (by omega)
      rw [sg_lb _ _ _ _ _ HPRE.out (by omega)] at hcz
      have hf := hown.frozen (off + i)
      have hx1 : lb s' i < 18446744073709551616 := lb_lt_of (by decide) HO.out.lt _
      have hcy := HO.out.b1
      obtain ⟨x, hxx⟩ : ∃ x, lb vs i = x := ⟨_, rfl⟩
      rw [hxx] at hc0 hy htk
      obtain ⟨z, hzz⟩ : ∃ z, lb s' i = z := ⟨_, rfl⟩
      rw [hzz] at hcz hx1
      obtain ⟨p, hp⟩ : ∃ p, x * q = p := ⟨_, rfl⟩
      have hp1 : p ≤ 340282366920938463426481119284349108225 := by rw [← hp]; exact sq64 hy hq
      obtain ⟨ph, hph⟩ : ∃ ph, p / 18446744073709551616 = ph := ⟨_, rfl⟩
      obtain ⟨pl, hpl⟩ : ∃ pl, p % 18446744073709551616 = pl := ⟨_, rfl⟩
      obtain ⟨s1, hs1⟩ : ∃ s1, (z + 18446744073709551616 - pl - 0) % 18446744073709551616 = s1 := ⟨_, rfl⟩
      obtain ⟨c1, hc1⟩ : ∃ c1, (if z < pl + 0 then 1 else 0) = c1 := ⟨_, rfl⟩
      obtain ⟨s2, hs2⟩ : ∃ s2, (s1 + 18446744073709551616 - bo - 0) % 18446744073709551616 = s2 := ⟨_, rfl⟩
      obtain ⟨c2, hc2⟩ : ∃ c2, (if s1 < bo + 0 then 1 else 0) = c2 := ⟨_, rfl⟩
      have hplb : pl < 18446744073709551616 := by rw [← hpl]; exact Nat.mod_lt _ (by decide)
      have hs1b : s1 < 18446744073709551616 := by rw [← hs1]; exact Nat.mod_lt _ (by decide)
      have hs2b : s2 < 18446744073709551616 := by rw [← hs2]; exact Nat.mod_lt _ (by decide)
      have q1 : s1 + pl = z + 18446744073709551616 * c1 := sub_one z pl s1 c1 hx1 hplb hs1 hc1
      have q2 : s2 + bo = s1 + 18446744073709551616 * c2 := sub_one s1 bo s2 c2 hs1b hcy hs2 hc2
      obtain ⟨hst1, hst2, hst3⟩ := ms_step x q bo z s1 c1 s2 c2 ph pl (ph + c1 + c2) hy hq hcy hx1 (by rw [hp, ← hph, ← hpl]; exact (Nat.div_add_mod _ _).symm) hplb q1 hs1b q2 hs2b rfl
      have hst := HO.out.step (by omega) p s2 (ph + c1 + c2) (by rw [hzz, ← hp]; exact hst1) hs2b hst2
      rw [← hp, ← Nat.mul_assoc, ← Nat.add_mul, ← htk] at hst
      have HST := Lib.hid hst
      have hown2 := hown.set_ (off + i) s2
      rw [sg_set _ _ _ _ _ _ HPRE.out (by omega)] at hown2
      have hB2 := hB.setCell (off + i) (.int .u64 (s2 : Nat))
      have hMul : Hid (∀ W, Calls Tryz.prog 116 #[.int .u64 (x : Nat), .int .u64 (q : Nat)] W fun e w' => e = .returned (.tuple #[.int .u64 (ph : Nat), .int .u64 (pl : Nat)]) ∧ w' = W) := by
        intro W
        have := mul64_calls x q hy hq W
        rw [hp, hph, hpl] at this
        exact this
      have hadd1 : ∀ w, (callFunc 117 #[.int .u64 (z : Nat), .int .u64 (pl : Nat), .int .u64 0]).run Tryz.prog w = .ok (.value (.tuple #[.int .u64 (s1 : Nat), .int .u64 (c1 : Nat)])) w := run_subc z pl 0 s1 c1 (Nat.zero_le _) hs1 hc1
      have hadd2 : ∀ w, (callFunc 117 #[.int .u64 (s1 : Nat), .int .u64 (bo : Nat), .int .u64 0]).run Tryz.prog w = .ok (.value (.tuple #[.int .u64 (s2 : Nat), .int .u64 (c2 : Nat)])) w := run_subc s1 bo 0 s2 c2 (Nat.zero_le _) hs2 hc2
      obtain ⟨d1, hd1⟩ : ∃ d1, ph + c1 = d1 := ⟨_, rfl⟩
      obtain ⟨d, hd⟩ : ∃ d, d1 + c2 = d := ⟨_, rfl⟩
      rw [hd1] at hst3 HST hst2
      rw [hd] at HST hst2
      have f1 : (ph : Int) + (c1 : Int) = (d1 : Int) := by rw [← hd1]; rfl
      have f2 : (d1 : Int) + (c2 : Int) = (d : Int) := by rw [← hd]; rfl
      have f3 := u64_fit hst3
      have f4 := u64_fit hst2
      have f5 := u64_mod hst3
      have f6 := u64_mod hst2
      clear hst htk hxx hzz hp hph hpl hs1 hc1 hs2 hc2 hown hB HO hd hd1 hp1 hst1 hst2 hst3 q1 q2 hplb hs1b hs2b hy hx1 hcy hl
      go_wp2_with (fail)
      refine (hMul.out _).mono ?_
      rintro e w' ⟨rfl, rfl⟩
      clear hMul
      go_wp2
      go_roundw
      case rel => exact ⟨i + 1, _, d, by omega, by go_num, rfl, HST, hown2, hB2⟩
      case measure => simp [intOf]; omega
    · obtain rfl : i = m := by omega
      rw [HT2.out] at HO
      have hl := HO.out.len
      have hcz := hown.cell (j := off + i) (by omega)
      rw [sg_lb _ _ _ _ _ HPRE.out (by omega), HO.out.out _ (Nat.le_refl _), HT.out] at hcz
      have hf := hown.frozen (off + i)
      have hbo := HO.out.b1
      have htb := HT0.out
      rw [HT.out] at htb
      by_cases hab : t < bo
      · obtain ⟨x, hx⟩ : ∃ x, t + 18446744073709551616 - bo = x := ⟨_, rfl⟩
        have hxb : x < 18446744073709551616 := by omega
        obtain ⟨r1, r2⟩ := dg_over1 i (wal vs * q) s s' bo t x HO.out HT.out (by unfold BB; omega) hab
        have r5 := dg_lt i (wal vs * q) s s' bo t HO.out HT.out hab
        have hq0 : 1 ≤ q := by
          rcases Nat.eq_zero_or_pos q with h | h
          · rw [h, Nat.mul_zero] at r5; omega
          · exact h
        obtain ⟨qq, hqq⟩ : ∃ qq, q - 1 = qq := ⟨_, rfl⟩
        have hqe : q = qq + 1 := by omega
        have hqb : qq < 18446744073709551616 := by omega
        have HEND : Hid (∀ s2 c, AdI (i + 1) 0 (wal (s'.set i x) + wal vs) i s2 c → lb s2 i + c = BB ∧ qq * wal vs + wal (s2.set i 0) = wal s ∧ wal (s2.set i 0) < wal vs) := fun s2 c h => by
          rw [hqe] at r1 r5
          obtain ⟨a, b⟩ := dg_over2 i (wal vs * (qq + 1)) (wal vs) qq (wal s) (wal (s'.set i x)) s2 c r1 (by rw [Nat.mul_add, Nat.mul_one, Nat.mul_comm qq]) (by have := HQ2.out; rw [hqe, Nat.add_mul, Nat.one_mul] at this; omega) h
          exact ⟨a, dg_end2 (wal vs) qq (wal s) _ b r5⟩
        have hown2 := hown.set_ (off + i) x
        rw [sg_set _ _ _ _ _ _ HPRE.out (by omega)] at hown2
        have hB2 := hB.setCell (off + i) (.int .u64 (x : Nat))
        have HA0 : Hid (AdI (i + 1) 0 (wal (s'.set i x) + wal (vs.take 0)) 0 (s'.set i x) 0) := ⟨by rw [List.length_set]; exact hl, r2, Nat.zero_le _, by simp [wal]⟩
        have f1 : ((t : Int) - (bo : Int)) % 18446744073709551616 = (x : Int) := by omega
        have f2 : IntKind.u64.wrap ((t : Int) - (bo : Int)) = (x : Int) := by rw [IntKind.wrap_u64]; exact f1
        have f3 := u64_fit hxb
        have g1 : (q : Int) - 1 = (qq : Int) := by omega
        have g2 := u64_fit hqb
        have g3 := u64_mod hqb
        clear r1 r2 r5 hq0 hqe hown hB HO hl hbo htb hx hxb HD0
        go_wp2
        generalize hWW : wr.setCell ⟨g, off + i, none⟩ (.int .u64 (x : Nat)) = w2 at *
        clear hWW
        go_loopw [84, 16] (fun t7 s7 wx => ∃ (j : Nat) (s2 : List Nat) (cy : Nat), j ≤ i ∧ t7 = .int .i64 (j : Nat) ∧ s7 = .int .u64 (cy : Nat) ∧ Hid (AdI (i + 1) 0 (wal (s'.set i x) + wal (vs.take j)) j s2 cy) ∧ Ow wx base (.slice (some ⟨g, 0, none⟩) N c) (Sg pre s2 post) ∧ But g w wx) (fun t7 _ _ => i - (intOf t7).toNat)
        case atStart => exact ⟨0, _, 0, Nat.zero_le _, rfl, rfl, HA0, hown2, hB2⟩
        case round =>
          clear hown2 hB2 HA0
          obtain ⟨j, s2, cy, hj, rfl, rfl, HO, hown, hB⟩ := hrel
          have hl := HO.out.len
          have hcy := HO.out.cy1
          by_cases hlt : j < i
          · have hc0 := (hB.cell (p := av.add j) (by rw [addr_add_block]; exact hbv) (by rw [addr_add_block]; exact hgv)).trans (hcellv j hlt)
            have hy := HXV.out j
            have htk := HTK.out j hlt
            have hcz := hown.cell (j := off + j) (by omega)
            rw [sg_lb _ _ _ _ _ HPRE.out (by omega)] at hcz
            have hf := hown.frozen (off + j)
            have hx1 : lb s2 j < 18446744073709551616 := lb_lt_of (by decide) HO.out.lt _
            obtain ⟨y, hyy⟩ : ∃ y, lb vs j = y := ⟨_, rfl⟩
            rw [hyy] at hc0 hy htk
            obtain ⟨z, hzz⟩ : ∃ z, lb s2 j = z := ⟨_, rfl⟩
            obtain ⟨s3, hs3⟩ : ∃ s3, (z + y + cy) % 18446744073709551616 = s3 := ⟨_, rfl⟩
            obtain ⟨d, hd⟩ : ∃ d, (z + y + cy) / 18446744073709551616 = d := ⟨_, rfl⟩
            have hst := HO.out.step (by omega) y s3 d hy (by rw [Nat.zero_add, hzz]; exact hs3) (by rw [Nat.zero_add, hzz]; exact hd)
            rw [Nat.zero_add, Nat.add_assoc, ← htk] at hst
            have HST := Lib.hid hst
            rw [hzz] at hcz hx1
            have hown2 := hown.set_ (off + j) s3
            rw [sg_set _ _ _ _ _ _ HPRE.out (by omega)] at hown2
            have hB2 := hB.setCell (off + j) (.int .u64 (s3 : Nat))
            have hadd := run_addc z y cy s3 d hcy hs3 hd
            clear hst htk hyy hs3 hd hzz hown hB HO hy hx1 hcy hl
            go_wp2
            go_roundw
            case rel => exact ⟨j + 1, _, d, by omega, by go_num, rfl, HST, hown2, hB2⟩
            case measure => simp [intOf]; omega
          · obtain rfl : j = i := by omega
            rw [HT2.out] at HO
            obtain ⟨a1, a2, a3⟩ := HEND.out s2 cy HO.out
            have hcz := hown.cell (j := off + j) (by omega)
            rw [sg_lb _ _ _ _ _ HPRE.out (by omega)] at hcz
            have hf := hown.frozen (off + j)
            obtain ⟨z, hzz⟩ : ∃ z, lb s2 j = z := ⟨_, rfl⟩
            rw [hzz] at hcz a1
            have f1 : ((z : Int) + (cy : Int)) % 18446744073709551616 = 0 := by unfold BB at a1; omega
            have f2 : IntKind.u64.wrap ((z : Int) + (cy : Int)) = 0 := by rw [IntKind.wrap_u64]; exact f1
            have hown2 := hown.set_ (off + j) 0
            rw [sg_set _ _ _ _ _ _ HPRE.out (by omega)] at hown2
            have hB2 := hB.setCell (off + j) (.int .u64 (0 : Nat))
            have HFN : Hid (∃ q' s3, Ending.returned (.int .u64 (qq : Nat)) = .returned (.int .u64 (q' : Nat)) ∧ q' < 18446744073709551616 ∧ s3.length = j + 1 ∧ (∀ x ∈ s3, x < 18446744073709551616) ∧ q' * wal vs + wal s3 = wal s ∧ wal s3 < wal vs ∧
              Ow (wr.setCell ⟨g, off + j, none⟩ (.int .u64 0)) base (.slice (some ⟨g, 0, none⟩) N c) (Sg pre s3 post)) := ⟨qq, _, rfl, hqb, by rw [List.length_set]; exact hl, set_lt HO.out.lt (by decide), a2, a3, hown2⟩
            have hE : Hid (But g w (wr.setCell ⟨g, off + j, none⟩ (.int .u64 0))) := hB2
            clear a1 a2 a3 hown2 hown hB hB2 HO hl hcy hzz hq hqb HEND
            go_wp2
            go_ret
            exact ⟨HFN.out, hE.out⟩
      · obtain ⟨x, hx⟩ : ∃ x, t - bo = x := ⟨_, rfl⟩
        have hxb : x < 18446744073709551616 := by omega
        obtain ⟨r1, r2⟩ := dg_fit i (wal vs * q) s s' bo t x HO.out HT.out (by omega)
        obtain ⟨r3, r4⟩ := dg_end1 (wal vs) q (wal s) _ r1 HQ1.out
        have hown2 := hown.set_ (off + i) x
        rw [sg_set _ _ _ _ _ _ HPRE.out (by omega)] at hown2
        have hB2 := hB.setCell (off + i) (.int .u64 (x : Nat))
        have f1 : (t : Int) - (bo : Int) = (x : Int) := by omega
        have f2 := u64_fit hxb
        have f3 := u64_mod hxb
        have HFN : Hid (∃ q' s2, Ending.returned (.int .u64 (q : Nat)) = .returned (.int .u64 (q' : Nat)) ∧ q' < 18446744073709551616 ∧ s2.length = i + 1 ∧ (∀ x ∈ s2, x < 18446744073709551616) ∧ q' * wal vs + wal s2 = wal s ∧ wal s2 < wal vs ∧
          Ow (wr.setCell ⟨g, off + i, none⟩ (.int .u64 (x : Nat))) base (.slice (some ⟨g, 0, none⟩) N c) (Sg pre s2 post)) := ⟨q, _, rfl, hq, by rw [List.length_set]; exact hl, r2, r3, r4, hown2⟩
        have hE : Hid (But g w (wr.setCell ⟨g, off + i, none⟩ (.int .u64 (x : Nat)))) := hB2
        clear r1 r2 r3 r4 hown2 hown hB hB2 HO hl hbo htb hx hxb hq
        go_wp2
        go_ret
        exact ⟨HFN.out, hE.out⟩
end Go.Proofs.YtigdflfhepelaaaGreatDoor
/- Differences; limbs in words of 64 bits and back. -/
namespace Go.Proofs.YtigdflfhepelaaaGreatDoor
open Go.RowKit
set_option linter.unusedVariables false
set_option maxHeartbeats 400000

theorem less_B (w : World) (v u : Value) (n m d : Nat) (h : Un w v n) (g : Un w u m) (hl : (limbs n).length ≤ 1000000) (hle : m ≤ n) (hd : n - m = d) :
    Calls Tryz.prog 72 #[v, u] w fun e w' => ∃ z, e = .returned z ∧ Un w' z d ∧ Ext w w' := by
  have h0 := Lib.hid (sub_B w v u n m h g (by omega) true (by rw [decide_eq_true_iff]; exact hle) d hd)
  clear h g hle hd
  go_enter Tryz.func72, Tryz.ntmps72
  go_wp2_with (fail)
  refine h0.out.mono ?_
  rintro e w1 ⟨z, rfl, hz, hB⟩
  have HF : Hid (∃ z', Ending.returned z = .returned z' ∧ Un w1 z' d ∧ Ext w w1) := ⟨_, rfl, hz, hB⟩
  clear hz hB h0
  go_wp2
  go_ret
  exact HF.out

set_option maxRecDepth 100000 in
set_option maxHeartbeats 4000000 in
theorem dpack_calls (w : World) (v : Value) (xs : List Nat) (h : U w v xs) (hl : xs.length ≤ 100000) (n : Nat) (hn : (xs.length + 1) / 2 ≤ n) (hn2 : n ≤ 100000) :
    Calls Tryz.prog 102 #[v, .int .i64 (n : Nat)] w fun e w' => e = .returned (.slice (some ⟨w.heap.size, 0, none⟩) n n) ∧ (∃ o, Ow w' w.heap.size (.slice (some ⟨w.heap.size, 0, none⟩) n n) o ∧ wal o = val xs ∧ (∀ x ∈ o, x < 18446744073709551616) ∧ o.length = n) ∧ Ext w w' := by
  obtain ⟨A, c, rfl, ⟨hc, hmx⟩, hx, hr⟩ := h
  obtain ⟨i0, hi, hz0, hz1, hz2⟩ := info_parts info64
  obtain ⟨L, hL⟩ : ∃ L, xs.length = L := ⟨_, rfl⟩
  rw [hL] at hc hmx hr hl hn ⊢
  have HDN : Hid (∀ o, PcI xs n L o → wal o = val xs ∧ ∀ x ∈ o, x < 18446744073709551616) := fun o h => h.done hL hn hx
  obtain ⟨B, hB⟩ : ∃ B, w.heap.size = B := ⟨_, rfl⟩
  rw [hB]
  have hP0 : Hid (PcI xs n 0 (List.replicate n 0)) := PcI.start xs n
  clear hL
  go_enter Tryz.func102, Tryz.ntmps102
  go_wp2_with (at_make; refine wpList_make_full _ rfl _ _ 114 rfl w.heap.size 39 i0 (.int .u64 0) 1 Tryz.underlying114 hi hz0 hz1 _ _ _ _ n rfl rfl (by omega) (by omega) (by rw [hz2]; omega) (by unfold maxLen; omega) (Nat.le_refl _) ?_; intro w1 hown hgrow)
  have ho0 := Ow.zeros hown
  have hE0 : Ext w w1 := (Ext.refl w).grown hgrow (Nat.le_refl _) (fun _ h => by cases h)
  rw [hB] at ho0
  clear hown hgrow hi hz0 hz1 hz2 i0
  go_wp2
  go_loopw [12] (fun t wr => ∃ (i : Nat) (o : List Nat), i ≤ L ∧ t = .int .i64 (i : Nat) ∧ Hid (PcI xs n i o) ∧ Ow wr B (.slice (some ⟨B, 0, none⟩) n n) o ∧ Ext w wr) (fun t _ => L - (intOf t).toNat)
  case atStart => exact ⟨0, _, Nat.zero_le _, rfl, hP0, ho0, hE0⟩
  case round =>
    clear ho0 hE0 hP0
    obtain ⟨i, o, hiq, rfl, HO, hown, hE⟩ := hrel
    by_cases hlt : i < L
    · obtain ⟨ad, rfl, hb, hcell⟩ := hr (by omega)
      have hc0 := (hE.cell (p := ad.add i) (by rw [addr_add_block]; exact hb)).trans (hcell i (by omega))
      have hxb := lb_lt hx i
      obtain ⟨x, hx0⟩ : ∃ x, lb xs i = x := ⟨_, rfl⟩
      rw [hx0] at hc0 hxb
      have hxw := u64_fit (show x < 18446744073709551616 by omega)
      have hxm := u64_mod (show x < 18446744073709551616 by omega)
      have hbn : (ad.add i).block ≠ B := by rw [addr_add_block]; omega
      obtain ⟨k, hk⟩ : ∃ k, i / 2 = k := ⟨_, rfl⟩
      have k1 : (i : Int) / 2 = (k : Int) := by omega
      have k2 : (i : Int).tdiv 2 = (k : Int) := by rw [Int.tdiv_eq_ediv_of_nonneg (by omega)]; exact k1
      have k3 : (k : Int) < (n : Int) := by omega
      have k4 : (0 : Int) ≤ (k : Int) := Int.natCast_nonneg k
      have k5 := i64_fit (show k ≤ 1000000 by omega)
      have k6 : k < n := by omega
      have hf := hown.frozen k
      have hcz := hown.cell (j := k) k6
      rcases (show i = 2 * k ∨ i = 2 * k + 1 by omega) with e | e
      · obtain ⟨p1, p2⟩ := HO.out.low k e k6 x hx0
        rw [p1] at hcz
        have HST := Lib.hid p2
        have m1 : (i : Int) % 2 = 0 := by omega
        have m2 : (i : Int).tmod 2 = 0 := by rw [Int.tmod_eq_emod_of_nonneg (by omega)]; exact m1
        have o1 : bits .or .u64 0 (x : Int) = (x : Int) := by
          have := u64_or_nat 0 x (by decide) (by omega)
          rw [Nat.zero_or] at this
          exact this
        have hown2 := hown.set_ k x
        have hE2 := hE.setCell (p := ⟨B, k, none⟩) (by rw [hB]; exact Nat.le_refl _) (.int .u64 (x : Nat))
        clear hx0 hk e p1 p2 hown HO hE hxb
        go_wp2
        go_region
        all_goals
          go_wp2
          go_roundw
          case rel => exact ⟨i + 1, _, by omega, by go_num, HST, hown2.drew, hE2.drew⟩
          case measure => simp [intOf]; omega
      · obtain ⟨p1, p2⟩ := HO.out.high k e k6 x hx0
        have hyb := lb_lt hx (2 * k)
        obtain ⟨y, hy0⟩ : ∃ y, lb o k = y := ⟨_, rfl⟩
        rw [hy0] at hcz p1 p2
        rw [← p1] at hyb
        obtain ⟨z, hz⟩ : ∃ z, y + 4294967296 * x = z := ⟨_, rfl⟩
        rw [hz] at p2
        have HST := Lib.hid p2
        have m1 : (i : Int) % 2 = 1 := by omega
        have m2 : (i : Int).tmod 2 = 1 := by rw [Int.tmod_eq_emod_of_nonneg (by omega)]; exact m1
        have o1 := u64_or32 y x z hyb hxb hz
        have o2 : (x : Int) * 4294967296 = ((4294967296 * x : Nat) : Int) := by omega
        have o3 := u64_fit (show 4294967296 * x < 18446744073709551616 by omega)
        have o4 := u64_mod (show 4294967296 * x < 18446744073709551616 by omega)
        have hown2 := hown.set_ k z
        have hE2 := hE.setCell (p := ⟨B, k, none⟩) (by rw [hB]; exact Nat.le_refl _) (.int .u64 (z : Nat))
        generalize 4294967296 * x = x2 at *
        clear hx0 hk e p1 p2 hown HO hE hxb hyb hy0 hz
        go_wp2
        go_region
        all_goals
          go_wp2
          go_roundw
          case rel => exact ⟨i + 1, _, by omega, by go_num, HST, hown2.drew, hE2.drew⟩
          case measure => simp [intOf]; omega
    · obtain rfl : i = L := by omega
      obtain ⟨d1, d2⟩ := HDN.out o HO.out
      have HF : Hid (∃ o, Ow wr B (.slice (some ⟨B, 0, none⟩) n n) o ∧ wal o = val xs ∧ (∀ x ∈ o, x < 18446744073709551616) ∧ o.length = n) := ⟨o, hown, d1, d2, HO.out.len⟩
      clear d1 d2 hown HO
      go_wp2
      go_ret
      exact ⟨rfl, HF.out, hE⟩

set_option maxRecDepth 100000 in
set_option maxHeartbeats 4000000 in
theorem dunpack_calls (w : World) (g0 : Nat) (v : Value) (ws : List Nat) (h : V g0 w v ws) (hl : ws.length ≤ 1000000) (k : Nat) (hk : wal ws = k) :
    Calls Tryz.prog 104 #[v] w fun e w' => (∃ u, e = .returned u ∧ Un w' u k) ∧ Ext w w' := by
  obtain ⟨A, c, rfl, ⟨hc, hmx⟩, hx, hr⟩ := h
  obtain ⟨i0, hi, hz0, hz1, hz2⟩ := info_parts info32
  obtain ⟨n, hn⟩ : ∃ n, ws.length = n := ⟨_, rfl⟩
  rw [hn] at hc hmx hr hl ⊢
  obtain ⟨m, hm⟩ : ∃ m, 2 * n = m := ⟨_, rfl⟩
  have HM : Hid ((unpackL ws).length = m) := by rw [Hid, unpackL_len, hn]; exact hm
  have hmi : (2 : Int) * (n : Int) = (m : Int) := by omega
  obtain ⟨B, hB⟩ : ∃ B, w.heap.size = B := ⟨_, rfl⟩
  have hm1 : m ≤ 2000000 := by omega
  have HW := Lib.hid (unpackL_lt ws hx)
  have HTR := Lib.hid (fun W v h => make_B W v (unpackL ws) h k (by rw [val_unpackL]; exact hk))
  clear hn hk
  go_enter Tryz.func104, Tryz.ntmps104
  go_wp2_with (at_make; refine wpList_make_full _ rfl _ _ 22 rfl w.heap.size 46 i0 (.int .u32 0) 1 Tryz.underlying22 hi hz0 hz1 _ _ _ _ m rfl rfl (by omega) (by omega) (by rw [hz2]; omega) (by unfold maxLen; omega) (Nat.le_refl _) ?_; intro w1 hown hgrow)
  have ho0 : Own w1 w.heap.size (.slice (some ⟨w.heap.size, 0, none⟩) m m) (List.replicate m 0) := by
    have := Own.zeros hown
    rwa [List.length_replicate] at this
  have hE0 : Ext w w1 := (Ext.refl w).grown hgrow (Nat.le_refl _) (fun _ h => by cases h)
  rw [hB] at ho0
  clear hown hgrow hi hz0 hz1 hz2 i0
  go_wp2
  go_loopw [12] (fun t wr => ∃ (i : Nat) (o : List Nat), i ≤ n ∧ t = .int .i64 (i : Nat) ∧ Hid (UnI ws m i o) ∧ Own wr B (.slice (some ⟨B, 0, none⟩) m m) o ∧ Ext w wr) (fun t _ => n - (intOf t).toNat)
  case atStart => exact ⟨0, _, Nat.zero_le _, rfl, ⟨by simp, fun j hj => absurd hj (by omega)⟩, ho0, hE0⟩
  case round =>
    clear ho0 hE0
    obtain ⟨i, o, hiq, rfl, HO, hown, hE⟩ := hrel
    by_cases hlt : i < n
    · obtain ⟨ad, rfl, hb, hne, hcell⟩ := hr (by omega)
      have hc0 := (hE.cell (p := ad.add i) (by rw [addr_add_block]; exact hb)).trans (hcell i hlt)
      have hb0 : lb ws i < 18446744073709551616 := lb_lt_of (by decide) hx i
      obtain ⟨x, hx0⟩ : ∃ x, lb ws i = x := ⟨_, rfl⟩
      rw [hx0] at hc0 hb0
      have HST : Hid (UnI ws m (i + 1) ((o.set (2 * i) (x % 4294967296)).set (2 * i + 1) (x / 4294967296))) := HO.out.step (by omega) x hx0
      have hol := HO.out.len
      have hf0 := hown.frozen' (2 * i)
      have hf1 := hown.frozen' (2 * i + 1)
      have hk0 := hown.rd.2 (2 * i) (by omega)
      have hk1 := hown.rd.2 (2 * i + 1) (by omega)
      have hown2 := (hown.set' (2 * i) (x % 4294967296)).set' (2 * i + 1) (x / 4294967296)
      have hE2 := (hE.setCell (p := ⟨B, 2 * i, none⟩) (by rw [hB]; exact Nat.le_refl _) (.int .u32 (x % 4294967296 : Nat))).setCell (p := ⟨B, 2 * i + 1, none⟩) (by rw [hB]; exact Nat.le_refl _) (.int .u32 (x / 4294967296 : Nat))
      obtain ⟨x0, hxx0⟩ : ∃ x0, x % 4294967296 = x0 := ⟨_, rfl⟩
      obtain ⟨x1, hxx1⟩ : ∃ x1, x / 4294967296 = x1 := ⟨_, rfl⟩
      rw [hxx0, hxx1] at HST hown2 hE2
      have f0 : IntKind.u32.wrap (x : Int) = (x0 : Int) := by rw [IntKind.wrap_u32]; omega
      have f00 : (x : Int) % 4294967296 = (x0 : Int) := by omega
      have f1 : (x : Int) / 4294967296 = (x1 : Int) := by omega
      have hx1b : x1 < 4294967296 := by omega
      have f2 : IntKind.u32.wrap (x1 : Int) = (x1 : Int) := by rw [IntKind.wrap_u32]; omega
      have f3 : (x1 : Int) % 4294967296 = (x1 : Int) := by omega
      have h2a : (0 : Int) ≤ 2 * (i : Int) := by omega
      have h2b : 2 * (i : Int) < (m : Int) := by omega
      have h2c : 2 * (i : Int) + 1 < (m : Int) := by omega
      have h2d : (2 * (i : Int)).toNat = 2 * i := by omega
      have h2e : (2 * (i : Int) + 1).toNat = 2 * i + 1 := by omega
      have hbn : (ad.add i).block ≠ B := by rw [addr_add_block]; omega
      clear hx0 hb0 hxx0 hxx1 hown HO hE hol
      go_wp2
      go_roundw
      case rel => exact ⟨i + 1, _, by omega, by go_num, HST, hown2, hE2⟩
      case measure => simp [intOf]; omega
    · obtain rfl : i = n := by omega
      have hdone := HO.out.done HM.out hm
      rw [hdone] at hown
      have hu := hown.toU HW.out (by rw [HM.out]; omega)
      clear hdone HO hown
      go_wp2_with (fail)
      refine (HTR.out _ _ hu).mono ?_
      rintro e w2 ⟨u, rfl, hu2, hB2⟩
      have HF : Hid (∃ u', Ending.returned u = .returned u' ∧ Un w2 u' k) := ⟨_, rfl, hu2⟩
      replace hE := hE.below hB2
      clear hu2 hu hB2
      go_wp2
      go_ret
      exact ⟨HF.out, hE⟩
end Go.Proofs.YtigdflfhepelaaaGreatDoor
/- The document's own Right, limb, Bit, Bits, Low, Cmp. -/
namespace Go.Proofs.YtigdflfhepelaaaGreatDoor
open Go.RowKit
set_option linter.unusedVariables false
set_option maxHeartbeats 400000
set_option maxRecDepth 100000

theorem blen_halves {t j : Nat} (h0 : t / 2 ^ j = 0) (h1 : 0 < j → t / 2 ^ (j - 1) ≠ 0) : blen t = j := by
  have a : t < 2 ^ j := by
    rcases Nat.lt_or_ge t (2 ^ j) with h | h
    · exact h
    · have := Nat.div_pos h (Nat.two_pow_pos j); omega
  rcases Nat.eq_zero_or_pos j with rfl | hj
  · have : t = 0 := by simpa using a
    subst this; rfl
  · have b : 2 ^ (j - 1) ≤ t := by
      rcases Nat.lt_or_ge t (2 ^ (j - 1)) with h | h
      · exact absurd (Nat.div_eq_of_lt h) (h1 hj)
      · exact h
    have := blen_eq b (by rwa [show j - 1 + 1 = j by omega])
    omega

end Go.Proofs.YtigdflfhepelaaaGreatDoor
/- The document's own Low and Cmp. -/
namespace Go.Proofs.YtigdflfhepelaaaGreatDoor
open Go.RowKit
set_option linter.unusedVariables false
set_option maxHeartbeats 400000
set_option maxRecDepth 100000

theorem val_cons_drop (xs : List Nat) (k : Nat) (h : k < xs.length) : val (xs.drop k) = lb xs k + 4294967296 * val (xs.drop (k + 1)) := by
  rw [List.drop_eq_getElem_cons h]
  have : lb xs k = xs[k] := by simp [lb, h]
  rw [this]; rfl

theorem cmp_top {xs ys : List Nat} (hx : ∀ x ∈ xs, x < 4294967296) (hy : ∀ x ∈ ys, x < 4294967296) (p L : Nat) (h1 : xs.length ≤ L) (h2 : ys.length ≤ L) (hp : p < L)
    (ht : ∀ j, p < j → j < L → lb xs j = lb ys j) (hlt : lb xs p < lb ys p) : val xs < val ys := by
  rw [← range_lb xs L h1, ← range_lb ys L h2]
  have e : ∀ (zs : List Nat) j, j < L → lb ((List.range L).map fun j => lb zs j) j = lb zs j := fun zs j hj => by
    simp [lb, hj]
  refine val_lt_of_top (by simp) ?_ ?_ p (by simp; exact hp) ?_ ?_
  · intro x hx'; obtain ⟨j, _, rfl⟩ := List.mem_map.1 hx'; exact lb_lt hx j
  · intro x hx'; obtain ⟨j, _, rfl⟩ := List.mem_map.1 hx'; exact lb_lt hy j
  · intro j h3 h4; simp at h4; rw [e xs j h4, e ys j h4]; exact ht j h3 h4
  · rw [e xs p hp, e ys p hp]; exact hlt
theorem val_eq_of_lb {xs ys : List Nat} (L : Nat) (h1 : xs.length ≤ L) (h2 : ys.length ≤ L) (ht : ∀ j, j < L → lb xs j = lb ys j) : val xs = val ys := by
  rw [← range_lb xs L h1, ← range_lb ys L h2]
  congr 1
  apply List.map_congr_left
  intro j hj
  exact ht j (by simpa using hj)

end Go.Proofs.YtigdflfhepelaaaGreatDoor
/- Quotient and rest by a limb. -/
namespace Go.Proofs.YtigdflfhepelaaaGreatDoor
open Go.RowKit
set_option linter.unusedVariables false
set_option maxHeartbeats 400000

theorem u64_or32' (x y z : Nat) (hx : x < 4294967296) (hy : y < 4294967296) (hz : 4294967296 * y + x = z) : bits .or .u64 ((4294967296 * y : Nat) : Int) (x : Int) = (z : Int) := by
  rw [u64_or_nat _ _ (by omega) (by omega), nat_join 32 _ x (Nat.mul_mod_right _ _) hx, hz]
theorem u32_fit {k : Nat} (h : k < 4294967296) : IntKind.u32.wrap (k : Int) = (k : Int) := by rw [IntKind.wrap_u32]; omega
theorem u32_mod {k : Nat} (h : k < 4294967296) : (k : Int) % 4294967296 = (k : Int) := by omega

/-- The limbs from k on are divided. -/
structure SmI (xs : List Nat) (m k : Nat) (o : List Nat) (r : Nat) : Prop where
  len : o.length = xs.length
  lt : ∀ x ∈ o, x < 4294967296
  val : val (xs.drop k) = val (o.drop k) * m + r
  small : r < m
theorem SmI.step {xs : List Nat} {m k : Nat} {o : List Nat} {r : Nat} (h : SmI xs m (k + 1) o r) (hk : k < xs.length) (x z q s : Nat) (hx : lb xs k = x) (hz : 4294967296 * r + x = z) (hxb : x < 4294967296) (hq : z / m = q) (hs : z % m = s) : q < 4294967296 ∧ SmI xs m k (o.set k q) s := by
  have hm := h.small
  have hqb : q < 4294967296 := by
    rw [← hq]
    exact Nat.div_lt_of_lt_mul (by have := Nat.mul_le_mul_right 4294967296 (show r + 1 ≤ m from hm); omega)
  refine ⟨hqb, by simp [h.len], set_lt h.lt hqb, ?_, by rw [← hs]; exact Nat.mod_lt _ (by omega)⟩
  have h1 := val_cons_drop xs k hk
  have h2 := val_cons_drop (o.set k q) k (by simp [h.len]; exact hk)
  rw [lb_set_same _ (by rw [h.len]; exact hk), List.drop_set_of_lt (show k < k + 1 by omega)] at h2
  have h3 : q * m + s = z := by rw [← hq, ← hs, Nat.mul_comm]; exact Nat.div_add_mod _ _
  rw [h1, h2, hx, h.val, Nat.add_mul, Nat.mul_add, Nat.mul_assoc]
  omega

set_option maxRecDepth 100000 in
set_option maxHeartbeats 4000000 in
theorem small_calls (w : World) (v : Value) (a m : Nat) (h : Un w v a) (hl : (limbs a).length ≤ 1000000) (hm : m < 4294967296) (h0 : m ≠ 0) (q r : Nat) (hq : a / m = q) (hr : a % m = r) :
    Calls Tryz.prog 50 #[v, .int .u32 (m : Nat)] w fun e w' => (∃ u, e = .returned (.tuple #[u, .int .u32 (r : Nat), .int .i64 0]) ∧ Un w' u q) ∧ Ext w w' := by
  have hva := val_limbs a
  have h' : U w v (limbs a) := h
  generalize limbs a = xs at *
  clear h
  obtain ⟨A, c, rfl, ⟨hc, hmx⟩, hx, hr0⟩ := h'
  obtain ⟨i0, hi, hz0, hz1, hz2⟩ := info_parts info32
  obtain ⟨L, hL⟩ : ∃ L, xs.length = L := ⟨_, rfl⟩
  have HL := Lib.hid hL
  rw [hL] at hc hmx hr0 hl ⊢
  have HDN : Hid (∀ o s, SmI xs m 0 o s → val o = q ∧ s = r) := fun o s h => by
    have h1 := h.val
    rw [List.drop_zero, List.drop_zero, hva] at h1
    obtain ⟨a1, a2⟩ := dv_done m a (val o) s h1.symm h.small
    exact ⟨by rw [← hq, a1], by rw [← hr, a2]⟩
  have HS0 : Hid (SmI xs m L (List.replicate L 0) 0) := ⟨by simp [hL], by simp, by rw [List.drop_eq_nil_of_le (by omega), List.drop_eq_nil_of_le (by simp)]; simp [val], by omega⟩
  obtain ⟨B, hB⟩ : ∃ B, w.heap.size = B := ⟨_, rfl⟩
  have hmz : ((m : Int) == 0) = false := by rw [beq_eq_false_iff_ne]; omega
  have hmz2 : ¬ ((m : Int) = 0) := by omega
  have hmw := u64_fit (show m < 18446744073709551616 by omega)
  have hmw2 := u64_mod (show m < 18446744073709551616 by omega)
  have HM := Lib.hid hm
  have hrb : r < 4294967296 := by rw [← hr]; exact Nat.lt_trans (Nat.mod_lt _ (by omega)) hm
  have HRB := Lib.hid hrb
  clear hL hq hr hva hm hrb
  go_enter Tryz.func50, Tryz.ntmps50
  go_wp2_with (at_make; refine wpList_make_full _ rfl _ _ 22 rfl w.heap.size 46 i0 (.int .u32 0) 1 Tryz.underlying22 hi hz0 hz1 _ _ _ _ L rfl rfl (by omega) (by omega) (by rw [hz2]; omega) (by unfold maxLen; omega) (Nat.le_refl _) ?_; intro w1 hown hgrow)
  have ho0 : Own w1 w.heap.size (.slice (some ⟨w.heap.size, 0, none⟩) L L) (List.replicate L 0) := by
    have := Own.zeros hown
    rwa [List.length_replicate] at this
  have hE0 : Ext w w1 := (Ext.refl w).grown hgrow (Nat.le_refl _) (fun _ h => by cases h)
  rw [hB] at ho0
  clear hown hgrow hi hz0 hz1 hz2 i0
  go_wp2
  go_loopw [9, 8] (fun t s wr => ∃ (k : Nat) (z : Int) (o : List Nat) (rs : Nat), k ≤ L ∧ t = .int .i64 z ∧ z = (k : Int) - 1 ∧ s = .int .u64 (rs : Nat) ∧ Hid (SmI xs m k o rs) ∧ Own wr B (.slice (some ⟨B, 0, none⟩) L L) o ∧ Ext w wr) (fun t _ _ => (intOf t + 1).toNat)
  case atStart => exact ⟨L, _, _, 0, Nat.le_refl _, rfl, rfl, rfl, HS0, ho0, hE0⟩
  case round =>
    clear ho0 hE0 HS0
    obtain ⟨k, z, o, rs, hk, rfl, hz, rfl, HO, hown, hE⟩ := hrel
    cases k with
    | zero =>
      obtain rfl : z = -1 := by omega
      obtain ⟨d1, rfl⟩ := HDN.out o rs HO.out
      have hol := HO.out.len
      have hu := hown.toU HO.out.lt (by rw [hol, HL.out]; omega)
      have HMK := Lib.hid (make_B _ _ _ hu q d1)
      have hw1 := u32_fit HRB.out
      have hw2 := u32_mod HRB.out
      clear d1 hown HO hol hu HDN hz
      go_wp2_with (fail)
      refine HMK.out.mono ?_
      rintro e w2 ⟨u, rfl, hu, hB2⟩
      have HF : Hid (∃ u', Ending.returned (.tuple #[u, .int .u32 (rs : Nat), .int .i64 0]) = .returned (.tuple #[u', .int .u32 (rs : Nat), .int .i64 0]) ∧ Un w2 u' q) := ⟨_, rfl, hu⟩
      replace hE := hE.below hB2
      clear hu hB2 HMK
      go_wp2
      go_ret3
      exact ⟨HF.out, hE⟩
    | succ j =>
      obtain rfl : z = (j : Int) := by omega
      obtain ⟨ad, rfl, hb, hcell⟩ := hr0 (by omega)
      have hc0 := (hE.cell (p := ad.add j) (by rw [addr_add_block]; exact hb)).trans (hcell j (by omega))
      have hxb := lb_lt hx j
      obtain ⟨x, hx0⟩ : ∃ x, lb xs j = x := ⟨_, rfl⟩
      rw [hx0] at hc0 hxb
      have hrs := HO.out.small
      have hm2 := HM.out
      obtain ⟨y, hy⟩ : ∃ y, 4294967296 * rs + x = y := ⟨_, rfl⟩
      obtain ⟨p, hp⟩ : ∃ p, y / m = p := ⟨_, rfl⟩
      obtain ⟨s, hs⟩ : ∃ s, y % m = s := ⟨_, rfl⟩
      obtain ⟨hpb, hst⟩ := HO.out.step (by rw [HL.out]; omega) x y p s hx0 hy hxb hp hs
      have HST := Lib.hid hst
      have o1 := u64_or32' x rs y hxb (by omega) hy
      have o2 : (rs : Int) * 4294967296 = ((4294967296 * rs : Nat) : Int) := by omega
      have o3 := u64_fit (show 4294967296 * rs < 18446744073709551616 by omega)
      have o4 := u64_mod (show 4294967296 * rs < 18446744073709551616 by omega)
      have o5 := u64_fit (show x < 18446744073709551616 by omega)
      have o6 := u64_mod (show x < 18446744073709551616 by omega)
      have o7 : (y : Int).tdiv (m : Int) = (p : Int) := by rw [Int.tdiv_eq_ediv_of_nonneg (Int.natCast_nonneg _), ← hp, Int.natCast_ediv]
      have o8 : (y : Int).tmod (m : Int) = (s : Int) := by rw [Int.tmod_eq_emod_of_nonneg (Int.natCast_nonneg _), ← hs, Int.natCast_emod]
      have o7' : (y : Int) / (m : Int) = (p : Int) := by rw [← hp, Int.natCast_ediv]
      have o8' : (y : Int) % (m : Int) = (s : Int) := by rw [← hs, Int.natCast_emod]
      have o9 := u32_fit hpb
      have o10 := u32_mod hpb
      have o11 := u64_fit (show p < 18446744073709551616 by omega)
      have o12 := u64_mod (show p < 18446744073709551616 by omega)
      have hsb : s < 18446744073709551616 := by rw [← hs]; exact Nat.lt_trans (Nat.mod_lt _ (by omega)) (by omega)
      have o13 := u64_fit hsb
      have o14 := u64_mod hsb
      have hol := HO.out.len
      have hjl : j < o.length := by rw [hol, HL.out]; omega
      have hf := hown.frozen' j
      have hcz := hown.rd.2 j hjl
      have hown2 := hown.set' j p
      have hE2 := hE.setCell (p := ⟨B, j, none⟩) (by rw [hB]; exact Nat.le_refl _) (.int .u32 (p : Nat))
      have hbn : (ad.add j).block ≠ B := by rw [addr_add_block]; omega
      have hj2 : j < L := by omega
      generalize 4294967296 * rs = y2 at *
      clear hx0 hxb hrs hm2 hp hs hpb hst hy hsb hown HO hE hol hjl hz
      go_wp2
      go_roundw
      case rel => exact ⟨j, _, _, s, by omega, rfl, rfl, rfl, HST, hown2, hE2⟩
      case measure => simp [intOf]
theorem small_zero (w : World) (v : Value) :
    Calls Tryz.prog 50 #[v, .int .u32 0] w fun e w' => e = .returned (.tuple #[.slice none 0 0, .int .u32 0, .int .i64 3]) ∧ Ext w w' := by
  have hE := Ext.refl w
  go_enter Tryz.func50, Tryz.ntmps50
  go_wp2
  go_ret3
  exact ⟨rfl, hE⟩
end Go.Proofs.YtigdflfhepelaaaGreatDoor
/- A row of digits is written. -/
namespace Go.Proofs.YtigdflfhepelaaaGreatDoor
open Go.RowKit
set_option linter.unusedVariables false
set_option maxHeartbeats 400000

theorem But.setNew {g : Nat} {a b : World} (h : But g a b) {B : Nat} (hB : a.heap.size ≤ B) (j : Nat) (v : Value) : But g a (b.setCell ⟨B, j, none⟩ v) :=
  ⟨h.os, h.tape, h.output, by have := h.size; simp [World.setCell]; exact this, fun k hk hne => (heap_setCell_other b ⟨B, j, none⟩ k v (by show k ≠ B; omega)).trans (h.block k hk hne)⟩
theorem SBx.other {w : World} {B b n p : Nat} (h : SBx w B b n p) {q : Nat} (hne : B ≠ q) (j : Nat) (v : Value) : SBx (w.setCell ⟨q, j, none⟩ v) B b n p := by
  obtain ⟨h0, h1, h2, h3⟩ := h
  have hc : ∀ i, (w.setCell ⟨q, j, none⟩ v).cell? ⟨B, i, none⟩ = w.cell? ⟨B, i, none⟩ := fun i => World.cell?_of_block (heap_setCell_other w ⟨q, j, none⟩ B v hne)
  exact ⟨by simpa [World.setCell] using h0, by rw [hc]; exact h1, by rw [hc]; exact h2, by rw [hc]; exact h3⟩
theorem SBx.but {w w' : World} {B b n p g : Nat} (h : SBx w B b n p) (hE : But g w w') (hne : B ≠ g) : SBx w' B b n p := by
  obtain ⟨h0, h1, h2, h3⟩ := h
  have hc : ∀ i, w'.cell? ⟨B, i, none⟩ = w.cell? ⟨B, i, none⟩ := fun i => hE.cell h0 hne
  exact ⟨Nat.lt_of_lt_of_le h0 hE.size, by rw [hc]; exact h1, by rw [hc]; exact h2, by rw [hc]; exact h3⟩
theorem U.setBy {T : TypeId} {w : World} {v : Value} {xs : List Nat} {g : Nat} {o : List Nat} (h : U w v xs) (hB : By T w g o) (j : Nat) (x : Value) : U (w.setCell ⟨g, j, none⟩ x) v xs := h.butBy hB ((But.refl g w).setCell j x)

set_option maxRecDepth 100000 in
theorem digits_at (d : Nat) (h : d < 36) (h2 : d < (⟨#[48, 49, 50, 51, 52, 53, 54, 55, 56, 57, 97, 98, 99, 100, 101, 102, 103, 104, 105, 106, 107, 108, 109, 110, 111, 112, 113, 114, 115, 116, 117, 118, 119, 120, 121, 122]⟩ : ByteArray).size) : ((⟨#[48, 49, 50, 51, 52, 53, 54, 55, 56, 57, 97, 98, 99, 100, 101, 102, 103, 104, 105, 106, 107, 108, 109, 110, 111, 112, 113, 114, 115, 116, 117, 118, 119, 120, 121, 122]⟩ : ByteArray)[d]'h2).toNat = digB d := by
  have : ∀ k : Fin 36, ∀ h3 : k.1 < (⟨#[48, 49, 50, 51, 52, 53, 54, 55, 56, 57, 97, 98, 99, 100, 101, 102, 103, 104, 105, 106, 107, 108, 109, 110, 111, 112, 113, 114, 115, 116, 117, 118, 119, 120, 121, 122]⟩ : ByteArray).size, ((⟨#[48, 49, 50, 51, 52, 53, 54, 55, 56, 57, 97, 98, 99, 100, 101, 102, 103, 104, 105, 106, 107, 108, 109, 110, 111, 112, 113, 114, 115, 116, 117, 118, 119, 120, 121, 122]⟩ : ByteArray)[k.1]'h3).toNat = digB k.1 := by decide
  exact this ⟨d, h⟩ h2
theorem infoU8 : (Tryz.prog.info? 5).map (·.size) = some 1 := by kernel_rfl
theorem step_copyY {ops : Array Oper} {oo : Oper} {a : Act} {w : World} {K : Act → World → Prop} {Q : Exit → Act → World → Prop} {E : Prop} (hgd : oo.guard = none) (d s : Operand)
    (ho : oo.op = .call { callee := .builtin .copy, args := #[d, s], argTypes := #[49, 49] }) (g off dLen dCap sg sCap : Nat)
    (hd : a.eval d = .slice (some ⟨g, off, none⟩) dLen dCap) (hs : a.eval s = .slice (some ⟨sg, 0, none⟩) dLen sCap) (o c : List Nat) (T2 : TypeId) (hB : By 5 w g o) (hC : By T2 w sg c)
    (hl : dLen ≤ c.length) (hfit : off + dLen ≤ o.length) (h : ∀ w', Hid (By 5 w' g (splice o off (c.take dLen))) → But g w w' → K (a.put oo.dst (goInt dLen)) w') :
    if Region.wanted oo (yielded ops a.tmps) = true then Oper.wp Tryz.prog oo a w K Q else E := by
  have hw : Region.wanted oo (yielded ops a.tmps) = true := by simp [Region.wanted, hgd]
  rw [if_pos hw]
  have hcl : (c.take dLen).length = dLen := by rw [List.length_take]; omega
  have hrun := run_copy_row (P := Tryz.prog) w 49 49 oo.type 5 g off dLen dCap ⟨sg, 0, none⟩ dLen sCap (Bv o).toArray 5 (Bv (c.take dLen)) Tryz.underlying49 infoU8 hB (by rw [Bv_len, hcl]; exact (Nat.min_self _).symm)
    (fun j v hj => by
      have hjl : j < dLen := by
        have := (List.getElem?_eq_some_iff.1 hj).1
        rwa [Bv_len, hcl] at this
      rw [Bv_get _ (by rw [hcl]; exact hjl), lb_take hjl] at hj
      rw [addr_zero_add, hC.cell (by omega), ← hj]) (by rw [Bv_len, hcl]; simpa [Bv_len] using hfit) (by intro u hu; obtain ⟨z, _, rfl⟩ := List.mem_map.1 hu; rfl)
  unfold Oper.wp
  simp [execOp, ho, resolve, invoke, builtin, hd, hs, hrun, Result.andThen]
  rw [Bv_len, hcl]
  refine h _ ?_ ?_
  · show By _ _ _ _
    unfold By
    rw [setRow_heap w g _ _ _ _ hB, Bv_splice]
    simp [splice, Bv_len, hcl]
  · exact ⟨rfl, rfl, rfl, by simp, fun k hk hne => setRow_other w g k _ (fun e => hne (by rw [e]))⟩

set_option maxRecDepth 100000 in
set_option maxHeartbeats 4000000 in
theorem write_calls (w : World) (b n p : Nat) (hS : Sc b n p) (g off len cap : Nat) (pre mid post : List Nat) (hB : By 5 w g (pre ++ (mid ++ post))) (hpre : pre.length = off) (hmid : mid.length = len) (hcap : len ≤ cap) (hcm : cap ≤ 1000000000)
    (v : Value) (a0 : Nat) (hu : Un w v a0) (hl : (limbs a0).length ≤ 1000000) (ha : a0 < b ^ len) :
    Calls Tryz.prog 35 #[SV b n p, .slice (some ⟨g, off, none⟩) len cap, v] w fun e w' => e = .returned (.tuple #[]) ∧ By 5 w' g (pre ++ ((bdig b a0 len).map digB ++ post)) ∧ But g w w' := by
  have hn31 := hS.n32
  have hp2 := hS.p2
  have hn1 := hS.n1
  have hgl := hB.lt
  have HW : Hid (WrI b len a0 pre mid post len (pre ++ (mid ++ post)) a0) := ⟨Nat.le_refl _, by rw [List.take_of_length_le (by omega), List.drop_eq_nil_of_le (by rw [List.length_map, bdig_len]; omega), List.nil_append], by rw [Nat.sub_self, Nat.pow_zero, Nat.div_one]⟩
  have hSx : SBx ((w.alloc (.cells #[.int .u32 (b : Nat), .int .i64 (n : Nat), .int .u32 (p : Nat)] 56)).alloc (.cells #[.int .u8 0, .int .u8 0, .int .u8 0, .int .u8 0, .int .u8 0, .int .u8 0, .int .u8 0, .int .u8 0, .int .u8 0, .int .u8 0, .int .u8 0, .int .u8 0, .int .u8 0, .int .u8 0, .int .u8 0, .int .u8 0, .int .u8 0, .int .u8 0, .int .u8 0, .int .u8 0, .int .u8 0, .int .u8 0, .int .u8 0, .int .u8 0, .int .u8 0, .int .u8 0, .int .u8 0, .int .u8 0, .int .u8 0, .int .u8 0, .int .u8 0, .int .u8 0] 75)) w.heap.size b n p := (SBx.new w b n p).ext ((Ext.refl _).alloc _)
  have hC : By 75 ((w.alloc (.cells #[.int .u32 (b : Nat), .int .i64 (n : Nat), .int .u32 (p : Nat)] 56)).alloc (.cells #[.int .u8 0, .int .u8 0, .int .u8 0, .int .u8 0, .int .u8 0, .int .u8 0, .int .u8 0, .int .u8 0, .int .u8 0, .int .u8 0, .int .u8 0, .int .u8 0, .int .u8 0, .int .u8 0, .int .u8 0, .int .u8 0, .int .u8 0, .int .u8 0, .int .u8 0, .int .u8 0, .int .u8 0, .int .u8 0, .int .u8 0, .int .u8 0, .int .u8 0, .int .u8 0, .int .u8 0, .int .u8 0, .int .u8 0, .int .u8 0, .int .u8 0, .int .u8 0] 75)) (w.heap.size + 1) (List.replicate 32 0) := by unfold By; exact heap_alloc2_new w _ _
  have hE0 : Ext w ((w.alloc (.cells #[.int .u32 (b : Nat), .int .i64 (n : Nat), .int .u32 (p : Nat)] 56)).alloc (.cells #[.int .u8 0, .int .u8 0, .int .u8 0, .int .u8 0, .int .u8 0, .int .u8 0, .int .u8 0, .int .u8 0, .int .u8 0, .int .u8 0, .int .u8 0, .int .u8 0, .int .u8 0, .int .u8 0, .int .u8 0, .int .u8 0, .int .u8 0, .int .u8 0, .int .u8 0, .int .u8 0, .int .u8 0, .int .u8 0, .int .u8 0, .int .u8 0, .int .u8 0, .int .u8 0, .int .u8 0, .int .u8 0, .int .u8 0, .int .u8 0, .int .u8 0, .int .u8 0] 75)) := ((Ext.refl w).alloc _).alloc _
  have hB0 := hB.ext hE0
  have hu0 : Un _ v a0 := hu.below hE0
  have hbut := (But.refl g w).ext hE0
  go_enter Tryz.func35, Tryz.ntmps35
  go_wp2
  generalize ((w.alloc (.cells #[.int .u32 (b : Nat), .int .i64 (n : Nat), .int .u32 (p : Nat)] 56)).alloc (.cells #[.int .u8 0, .int .u8 0, .int .u8 0, .int .u8 0, .int .u8 0, .int .u8 0, .int .u8 0, .int .u8 0, .int .u8 0, .int .u8 0, .int .u8 0, .int .u8 0, .int .u8 0, .int .u8 0, .int .u8 0, .int .u8 0, .int .u8 0, .int .u8 0, .int .u8 0, .int .u8 0, .int .u8 0, .int .u8 0, .int .u8 0, .int .u8 0, .int .u8 0, .int .u8 0, .int .u8 0, .int .u8 0, .int .u8 0, .int .u8 0, .int .u8 0, .int .u8 0] 75)) = w1 at *
  go_loopw [1, 2] (fun t t2 wr => ∃ (m a : Nat) (o c : List Nat), t = .slice (some ⟨g, off, none⟩) m cap ∧ Hid (WrI b len a0 pre mid post m o a) ∧ Un wr t2 a ∧ a ≤ a0 ∧ By 5 wr g o ∧ SBx wr w.heap.size b n p ∧ c.length = 32 ∧ By 75 wr (w.heap.size + 1) c ∧ But g w wr) (fun t _ _ => match t with | .slice _ m _ => m | _ => 0)
  case atStart => exact ⟨len, a0, _, _, rfl, HW, hu0, Nat.le_refl _, hB0, hSx, by simp, hC, hbut⟩
  case round =>
    clear HW hu0 hB0 hSx hC hbut hE0 hu
    obtain ⟨m, a, o, c, rfl, HO, hu, hle, hB1, hSx, hcl, hC, hbut⟩ := hrel
    by_cases hm : m = 0
    · subst hm
      go_wp2
      refine bodyPost_end (results_none rfl _ _ _) rfl ⟨rfl, ?_, hbut⟩
      have hrow := HO.out.row
      rw [List.take_zero, List.nil_append, List.drop_zero] at hrow
      rw [← hrow]
      exact hB1
    · have hm1 : ((m : Int) > 0) := by omega
      obtain ⟨s0, s1, s2, s3⟩ := id hSx
      obtain ⟨q, hq⟩ : ∃ q, a / p = q := ⟨_, rfl⟩
      obtain ⟨r, hr⟩ : ∃ r, a % p = r := ⟨_, rfl⟩
      obtain ⟨k, hk⟩ : ∃ k, min n m = k := ⟨_, rfl⟩
      have hmin1 : (if (m : Int) < (n : Int) then (m : Int) else (n : Int)) = (k : Int) := by split <;> omega
      have hmin2 : (if m < n then (m : Int) else (n : Int)) = (k : Int) := by split <;> omega
      have hla : (limbs a).length ≤ 1000000 := Nat.le_trans (len_mono hle) hl
      go_wp2_with (go_at_call 50; refine (small_calls _ _ a p hu hla hS.fit (by omega) q r hq hr).mono ?_; rintro e w3 ⟨⟨u, rfl, hu3⟩, hE3⟩)
      replace hB1 := hB1.ext hE3
      replace hC := hC.ext hE3
      replace hSx := hSx.ext hE3
      replace hbut := hbut.ext hE3
      have HC0 := Lib.hid (CkI.start b k r c hcl)
      have hk0 : k ≤ 31 ∧ 1 ≤ k ∧ k ≤ m := by omega
      have hrp : r < 4294967296 := by rw [← hr]; exact Nat.lt_trans (Nat.mod_lt _ (by omega)) hS.fit
      clear hu hE3 s0 s1 s2 s3 hmin1 hmin2 hcl
      go_loopw [9, 8] (fun t s w4 => ∃ (j rs : Nat) (z : Int) (c : List Nat), j ≤ k ∧ t = .int .i64 z ∧ z = (j : Int) - 1 ∧ s = .int .u32 (rs : Nat) ∧ rs ≤ r ∧ Hid (CkI b k r j c rs) ∧ Un w4 u q ∧ By 5 w4 g o ∧ By 75 w4 (w.heap.size + 1) c ∧ SBx w4 w.heap.size b n p ∧ But g w w4) (fun t _ _ => (intOf t + 1).toNat)
      case atStart => exact ⟨k, r, _, c, Nat.le_refl _, rfl, rfl, rfl, Nat.le_refl _, HC0, hu3, hB1, hC, hSx, hbut⟩
      case round =>
        clear HC0 hu3 hB1 hC hSx hbut
        obtain ⟨j, rs, z, c, hj, rfl, hz, rfl, hrs, HC, hu3, hB1, hC, hSx, hbut⟩ := hrel
        obtain ⟨s0, s1, s2, s3⟩ := id hSx
        cases j with
        | zero =>
          obtain rfl : z = -1 := by omega
          clear hz
          obtain ⟨x, hx0⟩ : ∃ x, m = x + k := ⟨m - k, by omega⟩
          have hx : (m : Int) - (k : Int) = (x : Int) := by omega
          have hx1 : (0 : Int) ≤ (x : Int) := by omega
          have hx2 : (x : Int) ≤ (m : Int) := by omega
          have hx3 : m - x = k := by omega
          have hml := HO.out.le
          have hcl := HC.out.len
          have hol : o.length = off + len + post.length := by
            rw [HO.out.row]
            simp only [List.length_append, List.length_take, List.length_drop, List.length_map, bdig_len]
            omega
          have hkc : (k : Int) ≤ 32 := by omega
          have hxw : IntKind.i64.wrap (x : Int) = (x : Int) := by rw [IntKind.wrap_i64]; omega
          have hcx : ¬ (cap = x) := by omega
          have HW2 : Hid (WrI b len a0 pre mid post x (splice o (off + x) (c.take k)) q) := by
            have h9 := HO.out.step hS.b2 hmid ha k hk
            rw [← hS.pw, hr, hq, hpre, show m - k = x by omega, ← HC.out.done (by omega)] at h9
            exact h9
          have hx4 : (x : Int) ≤ (cap : Int) := by omega
          have hxm : Hid (x < m) := (by omega : x < m)
          have hqa : q ≤ a0 := Nat.le_trans (by rw [← hq]; exact Nat.div_le_self _ _) hle
          have hxk := Lib.hid hx0
          clear hx0
          go_wp2
          go_region_law (refine step_copyY rfl (.tmp 48) (.tmp 50) rfl g (off + x) k (cap - x) (w.heap.size + 1) 32 (by go_simp) (by go_simp) o c 75 hB1 hC (by omega) (by omega) ?_; intro w5 HB5 hbut5)
          replace hbut5 := But.trans (But.drew (But.refl g _)) hbut5
          have hun5 := hu3.butBy hB1 hbut5
          have hSx5 := hSx.but hbut5 (by omega)
          have hC5 := hC.but hbut5 (by omega)
          have hbut6 := But.trans hbut hbut5
          clear hB1 hC hSx hu3 hbut hbut5 s0 s1 s2 s3
          go_wp2
          go_roundw
          case rel => exact ⟨x, q, _, c, rfl, HW2, hun5, hqa, HB5.out, hSx5, hcl, hC5, hbut6⟩
          case measure => exact hxm.out
        | succ i =>
          obtain rfl : z = (i : Int) := by omega
          clear hz
          have hb36 := hS.b36
          have hb2 := hS.b2
          obtain ⟨d, hd⟩ : ∃ d, rs % b = d := ⟨_, rfl⟩
          obtain ⟨y, hy⟩ : ∃ y, rs / b = y := ⟨_, rfl⟩
          have hdb : d < 36 := by rw [← hd]; exact Nat.lt_of_lt_of_le (Nat.mod_lt _ (by omega)) hb36
          have o7 : (rs : Int).tdiv (b : Int) = (y : Int) := by rw [Int.tdiv_eq_ediv_of_nonneg (Int.natCast_nonneg _), ← hy, Int.natCast_ediv]
          have o8 : (rs : Int).tmod (b : Int) = (d : Int) := by rw [Int.tmod_eq_emod_of_nonneg (Int.natCast_nonneg _), ← hd, Int.natCast_emod]
          have o7' : (rs : Int) / (b : Int) = (y : Int) := by rw [← hy, Int.natCast_ediv]
          have o8' : (rs : Int) % (b : Int) = (d : Int) := by rw [← hd, Int.natCast_emod]
          have hyr : y ≤ rs := by rw [← hy]; exact Nat.div_le_self _ _
          have hbz : ¬ ((b : Int) = 0) := by omega
          have hfr := hC.frozen i
          have hcl := HC.out.len
          have hcell := hC.cell (j := i) (by omega)
          have HST := Lib.hid (HC.out.step (by omega) (by omega))
          rw [hd, hy] at HST
          have hC2 := hC.set_ i (digB d)
          go_wp2
          rw [digits_at d hdb]
          exact ⟨⟨i, y, _, c.set i (digB d), by omega, rfl, rfl, rfl, by omega, HST, hu3.setBy hC _ _, hB1.other (by omega) _ _, hC2, hSx.other (by omega) _ _, hbut.setNew (by omega) _ _⟩, by simp [intOf]⟩
end Go.Proofs.YtigdflfhepelaaaGreatDoor
/- A row of slices that grows; what is kept meanwhile. -/
namespace Go.Proofs.YtigdflfhepelaaaGreatDoor
open Go.RowKit
set_option linter.unusedVariables false
set_option maxHeartbeats 400000

/-- A value is a slice. -/
def Sl (u : Value) : Prop := ∃ a l c, u = .slice a l c
theorem U.sl {w : World} {v : Value} {xs : List Nat} (h : U w v xs) : Sl v := by
  obtain ⟨A, c, rfl, _⟩ := h
  exact ⟨_, _, _, rfl⟩
theorem Sl.one {u : Value} (h : Sl u) : u.oneCell' = true := by obtain ⟨a, l, c, rfl⟩ := h; rfl
theorem cell_lt {w : World} {p : Addr} {v : Value} (h : w.cell? p = some v) : p.block < w.heap.size := by
  rcases Nat.lt_or_ge p.block w.heap.size with h1 | h1
  · exact h1
  · exfalso
    unfold World.cell? at h
    rw [Array.getElem?_eq_none h1] at h
    cases h
/-- Every old cell that holds no slice is kept, and all that is older than B. -/
structure Kee (B : Nat) (w w' : World) : Prop where
  below : Below B w w'
  cell : ∀ p v, w.cell? p = some v → ¬ Sl v → w'.cell? p = some v
theorem Kee.refl (B : Nat) (w : World) : Kee B w w := ⟨Below.refl _ _, fun _ _ h _ => h⟩
theorem Kee.trans {B : Nat} {a b c : World} (h : Kee B a b) (k : Kee B b c) : Kee B a c := ⟨h.below.trans k.below, fun p v h1 h2 => k.cell p v (h.cell p v h1 h2) h2⟩
theorem Kee.ofExt {B : Nat} {a b : World} (hB : B ≤ a.heap.size) (h : Ext a b) : Kee B a b := ⟨Below.mono h hB, fun p v h1 _ => (h.cell (cell_lt h1)).trans h1⟩
theorem Kee.ext {B : Nat} {a b c : World} (h : Kee B a b) (hB : B ≤ a.heap.size) (k : Ext b c) : Kee B a c := h.trans (Kee.ofExt (Nat.le_trans hB h.below.size) k)
theorem Kee.size {B : Nat} {a b : World} (h : Kee B a b) : a.heap.size ≤ b.heap.size := h.below.size
theorem Kee.mono {B C : Nat} {a b : World} (h : Kee B a b) (hC : C ≤ B) : Kee C a b := ⟨Below.mono h.below hC, h.cell⟩
theorem U.kee {B : Nat} {w w' : World} {v : Value} {xs : List Nat} (h : U w v xs) (k : Kee B w w') : U w' v xs := by
  obtain ⟨A, c, rfl, hc, hx, hr⟩ := h
  refine ⟨A, c, rfl, hc, hx, fun h0 => ?_⟩
  obtain ⟨ad, hA, hb, hcell⟩ := hr h0
  exact ⟨ad, hA, Nat.lt_of_lt_of_le hb k.size, fun j hj => k.cell _ _ (hcell j hj) (by rintro ⟨a, l, c, e⟩; cases e)⟩
theorem Un.kee {B : Nat} {w w' : World} {v : Value} {n : Nat} (h : Un w v n) (k : Kee B w w') : Un w' v n := U.kee h k
theorem SBx.kee {B : Nat} {w w' : World} {S b n p : Nat} (h : SBx w S b n p) (k : Kee B w w') : SBx w' S b n p := by
  obtain ⟨h0, h1, h2, h3⟩ := h
  exact ⟨Nat.lt_of_lt_of_le h0 k.size, k.cell _ _ h1 (by rintro ⟨a, l, c, e⟩; cases e), k.cell _ _ h2 (by rintro ⟨a, l, c, e⟩; cases e), k.cell _ _ h3 (by rintro ⟨a, l, c, e⟩; cases e)⟩

/-- A row of slices in block g. -/
structure Rw (B : Nat) (w : World) (g n cap : Nat) (es : List Value) : Prop where
  lo : B ≤ g
  caps : n ≤ cap ∧ cap ≤ maxLen
  len : es.length = n
  row : ∃ cur : Array Value, w.heap[g]? = some (.cells cur 22 (0, 0)) ∧ cur.size = cap ∧ cur.toList.take n = es ∧ ∀ u ∈ cur.toList, Sl u
theorem Rw.lt {B : Nat} {w : World} {g n cap : Nat} {es : List Value} (h : Rw B w g n cap es) : g < w.heap.size := by
  obtain ⟨cur, h1, _⟩ := h.row
  exact (Array.getElem?_eq_some_iff.1 h1).1
theorem Rw.cell {B : Nat} {w : World} {g n cap : Nat} {es : List Value} (h : Rw B w g n cap es) {j : Nat} (hj : j < n) : w.cell? ⟨g, j, none⟩ = es[j]? := by
  obtain ⟨cur, h1, h2, h3, h4⟩ := h.row
  rw [cell_of_row w g j _ _ _ h1, ← h3, List.getElem?_take_of_lt hj, Array.getElem?_toList]
theorem Rw.of {B : Nat} {w w' : World} {g n cap : Nat} {es : List Value} (h : Rw B w g n cap es) (e : w'.heap[g]? = w.heap[g]?) : Rw B w' g n cap es := by
  obtain ⟨cur, h1, h2⟩ := h.row
  exact ⟨h.lo, h.caps, h.len, cur, e.trans h1, h2⟩
theorem Rw.ext {B : Nat} {w w' : World} {g n cap : Nat} {es : List Value} (h : Rw B w g n cap es) (k : Ext w w') : Rw B w' g n cap es := h.of (k.block g h.lt)
theorem Rw.sl {B : Nat} {w : World} {g n cap : Nat} {es : List Value} (h : Rw B w g n cap es) {p : Addr} (hp : p.block = g) {v : Value} (hv : w.cell? p = some v) : Sl v := by
  obtain ⟨cur, h1, h2, h3, h4⟩ := h.row
  unfold World.cell? at hv
  rw [hp, h1] at hv
  simp only at hv
  split at hv
  · cases hv
  · exact h4 v (Array.mem_toList_iff.2 (Array.mem_of_getElem? hv))
theorem Rw.new (B : Nat) (w : World) (e : Value) (he : Sl e) (hB : B ≤ w.heap.size) : Rw B (w.alloc (.cells #[e] 22)) w.heap.size 1 1 [e] :=
  ⟨hB, ⟨Nat.le_refl _, by unfold maxLen; omega⟩, rfl, #[e], heap_alloc_new w _, rfl, rfl, fun u hu => by simp at hu; subst hu; exact he⟩
theorem infoS : (Tryz.prog.info? 22).map (fun i => (i.zero, i.size, i.bytes)) = some (some (.slice none 0 0), 1, 24) := by kernel_rfl
theorem infoS_parts : ∃ i0 : TypeInfo, Tryz.prog.info? 22 = some i0 ∧ i0.zero = some (.slice none 0 0) ∧ i0.size = 1 ∧ i0.bytes = 24 := by
  cases h : Tryz.prog.info? 22 with
  | none =>
    have := infoS
    rw [h] at this
    cases this
  | some i0 =>
    have := infoS
    rw [h] at this
    simp only [Option.map_some, Option.some.injEq, Prod.mk.injEq] at this
    exact ⟨i0, rfl, this.1, this.2.1, this.2.2⟩
/-- One slice more. -/
theorem Rw.push {B : Nat} {w : World} {g n cap : Nat} {es : List Value} (h : Rw B w g n cap es) (e : Value) (he : Sl e) (a : Addr) (ha : w.cell? a = some e) (hn : n + 1 ≤ 1000000) (hB : B ≤ w.heap.size) :
    ∃ g' cap' w', (Builtin.append_ #[74, 74] 74 #[.slice (some ⟨g, 0, none⟩) n cap, .slice (some a) 1 1]).run Tryz.prog w = .ok (.slice (some ⟨g', 0, none⟩) (n + 1) cap') w' ∧ Rw B w' g' (n + 1) cap' (es ++ [e]) ∧
      w.grownBy w' (some g) ∧ (g' = g ∨ g' = w.heap.size) ∧ Kee B w w' := by
  obtain ⟨i0, hi, hz, hs, hb⟩ := infoS_parts
  obtain ⟨cur, h1, h2, h3, h4⟩ := id h.row
  have hnews : ∀ j u, [e][j]? = some u → w.cell? (a.add j) = some u := by
    intro j u hj
    have h0 := (List.getElem?_eq_some_iff.1 hj).1
    have : j = 0 := by simpa using h0
    subst this
    simp at hj
    subst hj
    rw [show a.add 0 = a by simp [Addr.add]]
    exact ha
  by_cases hroom : n + 1 ≤ cap
  · have hr := run_append_room (P := Tryz.prog) w 74 74 22 i0 Tryz.underlying74 hi g n cap cur h1 a 1 1 [e] (by rw [hs]; rfl) hnews (by intro u hu; simp at hu; subst hu; exact he.one) hroom (by rw [hs, h2]; simpa using hroom)
    rw [hs, Nat.mul_one] at hr
    have hhe : (w.setRow g (cur.toList.take n ++ [e] ++ cur.toList.drop (n + [e].length)).toArray).heap[g]? = some (.cells (cur.toList.take n ++ [e] ++ cur.toList.drop (n + [e].length)).toArray 22 (0, 0)) := setRow_heap w g cur _ 22 _ h1
    have hot : ∀ k, k ≠ g → (w.setRow g (cur.toList.take n ++ [e] ++ cur.toList.drop (n + [e].length)).toArray).heap[k]? = w.heap[k]? := fun k hk => setRow_other w g k _ hk
    have hsz : (w.setRow g (cur.toList.take n ++ [e] ++ cur.toList.drop (n + [e].length)).toArray).heap.size = w.heap.size := by simp
    have hgb : w.grownBy (w.setRow g (cur.toList.take n ++ [e] ++ cur.toList.drop (n + [e].length)).toArray) (some g) := ⟨rfl, rfl, rfl, by rw [hsz]; exact Nat.le_refl _, fun k _ hk => hot k (fun e => hk (by rw [e]))⟩
    refine ⟨g, cap, _, hr, ⟨h.lo, ⟨hroom, h.caps.2⟩, by rw [List.length_append, h.len]; rfl, _, hhe, ?_, ?_, ?_⟩, hgb, .inl rfl, ⟨⟨rfl, rfl, rfl, by rw [hsz]; exact Nat.le_refl _, fun k hk => hot k (by have := h.lo; omega)⟩, ?_⟩⟩
    · simp only [List.size_toArray, List.length_append, List.length_take, List.length_drop, Array.length_toList, List.length_singleton]
      omega
    · have hl : (cur.toList.take n ++ [e]).length = n + 1 := by rw [List.length_append, h3, h.len]; rfl
      show List.take (n + 1) (cur.toList.take n ++ [e] ++ cur.toList.drop (n + [e].length)) = _
      rw [List.take_left' hl, h3]
    · intro u hu
      simp only [List.mem_append, List.mem_singleton] at hu
      rcases hu with (hu | hu) | hu
      · exact h4 u (List.mem_of_mem_take hu)
      · subst hu; exact he
      · exact h4 u (List.mem_of_mem_drop hu)
    · intro p v hv hns
      by_cases hp : p.block = g
      · exact absurd (h.sl hp hv) hns
      · rw [← hv]
        unfold World.cell?
        rw [hot _ hp]
  · have holds : ∀ j v, es[j]? = some v → w.cell? ((⟨g, 0, none⟩ : Addr).add j) = some v := by
      intro j v hj
      have h0 := (List.getElem?_eq_some_iff.1 hj).1
      rw [h.len] at h0
      rw [addr_zero_add, h.cell h0, hj]
    have hr := run_append_grow (P := Tryz.prog) w 74 74 22 i0 (.slice none 0 0) Tryz.underlying74 hi hz ⟨g, 0, none⟩ n cap es (by rw [h.len, hs, Nat.mul_one]) holds a 1 1 [e] (by rw [hs]; rfl) hnews (by omega) (by omega) (growslice_fits (by omega) (by rw [hb]; omega))
    have hge := grownCap_ge w (n + 1) cap 22
    have hcm : grownCap w (n + 1) cap 22 ≤ maxLen := grownCap_le_maxLen w (n + 1) cap 22 (by unfold maxLen; omega)
    generalize grownCap w (n + 1) cap 22 = G at *
    have hE : Ext w (w.drew.alloc (.cells (es.toArray ++ [e].toArray ++ Builtin.zeroCells (Value.slice none 0 0).cells (G - (n + 1))) 22)) := ((Ext.refl w).drew).alloc _
    refine ⟨w.heap.size, G, _, hr, ⟨hB, ⟨hge, hcm⟩, by rw [List.length_append, h.len]; rfl, _, heap_alloc_new w.drew _, ?_, ?_, ?_⟩, ⟨rfl, rfl, rfl, hE.size, fun k hk _ => hE.block k hk⟩, .inr rfl, Kee.ofExt hB hE⟩
    · simp only [Array.size_append, List.size_toArray, size_zeroCells, List.length_singleton, h.len]
      show n + 1 + (G - (n + 1)) * 1 = G
      omega
    · have hl : (es ++ [e]).length = n + 1 := by rw [List.length_append, h.len]; rfl
      simp only [Array.toList_append]
      exact List.take_left' hl
    · intro u hu
      simp only [Array.toList_append, List.mem_append, List.mem_singleton] at hu
      rcases hu with (hu | hu) | hu
      · rw [← h3] at hu; exact h4 u (List.mem_of_mem_take hu)
      · subst hu; exact he
      · have : u = Value.slice none 0 0 := by
          simp [Builtin.zeroCells, Value.cells] at hu
          obtain ⟨j, _, h2⟩ := hu
          rw [Nat.mod_one] at h2
          exact h2.symm
        subst this
        exact ⟨_, _, _, rfl⟩
end Go.Proofs.YtigdflfhepelaaaGreatDoor
/- Numbers and their lengths, for the statements. -/
namespace Go.Proofs.YtigdflfhepelaaaGreatDoor

theorem len_add {n m a b : Nat} (h1 : (limbs n).length ≤ a) (h2 : (limbs m).length ≤ b) : (limbs (n + m)).length ≤ max a b + 1 := by
  apply len_le_of_lt
  have g1 := Nat.lt_of_lt_of_le (lt_of_len_le h1) (Nat.pow_le_pow_right (show 0 < 4294967296 by decide) (Nat.le_max_left a b))
  have g2 := Nat.lt_of_lt_of_le (lt_of_len_le h2) (Nat.pow_le_pow_right (show 0 < 4294967296 by decide) (Nat.le_max_right a b))
  rw [Nat.pow_succ]
  omega
theorem blen_mono {n m : Nat} (h : n ≤ m) : blen n ≤ blen m := blen_le_of_lt (Nat.lt_of_le_of_lt h (lt_pow_blen m))
theorem le_blen_add (n m : Nat) : max (blen n) (blen m) ≤ blen (n + m) := by
  have h1 := blen_mono (Nat.le_add_right n m)
  have h2 := blen_mono (Nat.le_add_left m n)
  omega
theorem blen_add_le (n m : Nat) : blen (n + m) ≤ 1 + max (blen n) (blen m) := by
  apply blen_le_of_lt
  have h1 := Nat.lt_of_lt_of_le (lt_pow_blen n) (Nat.pow_le_pow_right (show 0 < 2 by decide) (Nat.le_max_left (blen n) (blen m)))
  have h2 := Nat.lt_of_lt_of_le (lt_pow_blen m) (Nat.pow_le_pow_right (show 0 < 2 by decide) (Nat.le_max_right (blen n) (blen m)))
  rw [Nat.add_comm 1, Nat.pow_succ]
  omega
theorem blen_len {n k : Nat} (h : (limbs n).length ≤ k) : blen n ≤ 32 * k := by
  apply blen_le_of_lt
  rw [← pow32]
  exact lt_of_len_le h
theorem rightB_limbs {n : Nat} (h : (limbs n).length ≤ 65536) : rightB (limbs n) = true := by
  unfold rightB
  by_cases h0 : n = 0
  · subst h0; rw [limbs_zero]; rfl
  · have := limbs_last h0
    rw [decide_eq_true h, Bool.true_and, Bool.or_eq_true]
    right
    rw [bne_iff_ne]
    exact this
theorem cmpI_le {x y : Nat} (h : cmpI x y ≤ 0) : x ≤ y := by
  rcases Nat.lt_or_ge y x with h1 | h1
  · rw [cmpI_gt (by omega)] at h; omega
  · exact h1
theorem le_cmpI {x y : Nat} (h : x ≤ y) : cmpI x y ≤ 0 := by
  rcases Nat.lt_or_eq_of_le h with h1 | rfl
  · rw [cmpI_lt (by omega)]; omega
  · rw [cmpI_eq]; omega
theorem cmpI_shl_lt {x y k : Nat} (h : x < y) : cmpI ((x * 2 ^ k : Nat) : Int) ((y * 2 ^ k : Nat) : Int) = -1 := cmpI_lt (Int.ofNat_lt.2 (Nat.mul_lt_mul_of_pos_right h (Nat.two_pow_pos k)))
theorem cmpI_shl_gt {x y k : Nat} (h : y < x) : cmpI ((x * 2 ^ k : Nat) : Int) ((y * 2 ^ k : Nat) : Int) = 1 := cmpI_gt (Int.ofNat_lt.2 (Nat.mul_lt_mul_of_pos_right h (Nat.two_pow_pos k)))
end Go.Proofs.YtigdflfhepelaaaGreatDoor
/- Shifts and bits of numbers, for the statements. -/
namespace Go.Proofs.YtigdflfhepelaaaGreatDoor

theorem len_shl_c (n a k c : Nat) (h : (limbs n).length ≤ a) (hk : k ≤ 32 * c) : (limbs (n * 2 ^ k)).length ≤ a + c := by
  apply len_le_of_lt
  have h1 := lt_of_len_le h
  have h2 : 2 ^ k ≤ 4294967296 ^ c := by rw [pow32]; exact Nat.pow_le_pow_right (by decide) hk
  rw [Nat.pow_add]
  exact Nat.lt_of_lt_of_le (Nat.mul_lt_mul_of_pos_right h1 (Nat.two_pow_pos k)) (Nat.mul_le_mul_left _ h2)
theorem len_shl (n a k : Nat) (h : (limbs n).length ≤ a) (hk : k ≤ 3200) : (limbs (n * 2 ^ k)).length ≤ a + 100 := len_shl_c n a k 100 h hk
theorem bitN_nat (n i : Nat) : bitN n (i : Int) = n / 2 ^ i % 2 := by
  unfold bitN
  rw [if_neg (by omega), Int.toNat_natCast]
theorem cut_blen (n N : Nat) : blen (n - n / 2 ^ N * 2 ^ N) ≤ N := by
  apply blen_le_of_lt
  have := Nat.mod_lt n (Nat.two_pow_pos N)
  have e := Nat.div_add_mod n (2 ^ N)
  rw [Nat.mul_comm] at e
  omega
theorem cut_bit (n N I : Nat) : bitN (n / 2 ^ N) (I : Int) = bitN n ((N : Int) + (I : Int)) := by
  have e : ((N : Int) + (I : Int)) = ((N + I : Nat) : Int) := by omega
  rw [e, bitN_nat, bitN_nat, Nat.div_div_eq_div_mul, ← Nat.pow_add]
theorem shl_bit (n N I : Nat) : bitN (n * 2 ^ N) ((N : Int) + (I : Int)) = bitN n (I : Int) := by
  have e : ((N : Int) + (I : Int)) = ((N + I : Nat) : Int) := by omega
  rw [e, bitN_nat, bitN_nat, Nat.pow_add, ← Nat.div_div_eq_div_mul, Nat.mul_div_cancel _ (Nat.two_pow_pos N)]
theorem cut_len (n N : Nat) : ((blen (n / 2 ^ N) : Nat) : Int) = max 0 (((blen n : Nat) : Int) - (N : Int)) := by
  by_cases h : n / 2 ^ N = 0
  · have h1 : n < 2 ^ N := by
      rcases Nat.lt_or_ge n (2 ^ N) with g | g
      · exact g
      · have := Nat.div_pos g (Nat.two_pow_pos N); omega
    have := blen_le_of_lt h1
    rw [h, blen_zero]; omega
  · have := blen_shift n N h
    omega
theorem back_bit (r N : Nat) (h : 0 < N) : bitN (r * 2 ^ N) ((N : Int) - 1) = 0 := by
  have e : ((N : Int) - 1) = ((N - 1 : Nat) : Int) := by omega
  rw [e, bitN_nat]
  have e2 : r * 2 ^ N = r * 2 * 2 ^ (N - 1) := by
    conv => lhs; rw [show N = (N - 1) + 1 by omega, Nat.pow_succ]
    rw [Nat.mul_assoc, Nat.mul_comm 2, Nat.mul_comm (2 ^ (N - 1)) 2, Nat.mul_comm 2]
  rw [e2, Nat.mul_div_cancel _ (Nat.two_pow_pos _), Nat.mul_mod_left]
/-- All bits of a power of 2 less 1 are 1. -/
theorem ones_bit (N I : Nat) (h : I < N) : bitN (2 ^ N - 1) (I : Int) = 1 := by
  rw [bitN_nat]
  have h1 : (2 ^ N - 1).testBit I = true := by rw [Nat.testBit_two_pow_sub_one]; exact decide_eq_true h
  rw [Nat.testBit_eq_decide_div_mod_eq] at h1
  exact of_decide_eq_true h1
theorem pow_bit (N I : Nat) (h : I < N) : bitN (2 ^ N) (I : Int) = 0 := by
  rw [bitN_nat, Nat.pow_div (by omega) (by decide)]
  obtain ⟨k, hk⟩ : ∃ k, N - I = k + 1 := ⟨N - I - 1, by omega⟩
  rw [hk, Nat.pow_succ, Nat.mul_mod_left]
theorem pow_bit_top (N : Nat) : bitN (2 ^ N) (N : Int) = 1 := by
  rw [bitN_nat, Nat.div_self (Nat.two_pow_pos N)]
theorem blen_ones (N : Nat) : blen (2 ^ N - 1) = N := by
  cases N with
  | zero => rfl
  | succ N =>
    have h := Nat.two_pow_pos N
    refine blen_eq ?_ ?_
    · rw [Nat.pow_succ]; omega
    · have := Nat.two_pow_pos (N + 1); omega
theorem wrap_fit (x : Nat) (h : x < 18446744073709551616) : IntKind.u64.wrap ((x : Nat) : Int) = ((x : Nat) : Int) := by rw [IntKind.wrap_u64]; omega
theorem wrap_over (n m : Nat) (hn : n < 18446744073709551616) (hm : m < 18446744073709551616) (h : 18446744073709551616 ≤ n + m) : IntKind.u64.wrap ((n : Int) + (m : Int)) < (n : Int) := by rw [IntKind.wrap_u64]; omega
theorem cast_mul_pow (n k : Nat) : ((n : Int) * 2 ^ k) = ((n * 2 ^ k : Nat) : Int) := by rw [Int.natCast_mul, Int.natCast_pow]; rfl
theorem shl_back_fit (n k : Nat) (h : n * 2 ^ k < 18446744073709551616) : IntKind.u64.wrap ((n : Int) * 2 ^ k) / 2 ^ k = (n : Int) := by
  rw [cast_mul_pow, wrap_fit _ h, show ((2 : Int) ^ k) = ((2 ^ k : Nat) : Int) by rw [Int.natCast_pow]; rfl, ← Int.natCast_ediv, Nat.mul_div_cancel _ (Nat.two_pow_pos k)]
theorem shl_back_over (n k : Nat) (h : 18446744073709551616 ≤ n * 2 ^ k) : IntKind.u64.wrap ((n : Int) * 2 ^ k) / 2 ^ k ≠ (n : Int) := by
  rw [cast_mul_pow, IntKind.wrap_u64, show ((2 : Int) ^ k) = ((2 ^ k : Nat) : Int) by rw [Int.natCast_pow]; rfl, show (((n * 2 ^ k : Nat) : Int) % 18446744073709551616) = ((n * 2 ^ k % 18446744073709551616 : Nat) : Int) by rw [Int.natCast_emod]; rfl, ← Int.natCast_ediv]
  have h1 : n * 2 ^ k % 18446744073709551616 < n * 2 ^ k := Nat.lt_of_lt_of_le (Nat.mod_lt _ (by decide)) h
  have h2 : n * 2 ^ k % 18446744073709551616 / 2 ^ k < n := by
    rw [Nat.div_lt_iff_lt_mul (Nat.two_pow_pos k)]; exact h1
  omega
theorem lowN_lt {n : Nat} (h : n < 18446744073709551616) : lowN n = n := if_pos h
theorem lowN_ge {n : Nat} (h : 18446744073709551616 ≤ n) : lowN n = 0 := if_neg (by omega)
theorem lowB_lt {n : Nat} (h : n < 18446744073709551616) : lowB n = true := decide_eq_true h
theorem lowB_ge {n : Nat} (h : 18446744073709551616 ≤ n) : lowB n = false := decide_eq_false (by omega)
theorem len_64 {n : Nat} (h : n < 18446744073709551616) : (limbs n).length ≤ 2 := len_le_of_lt (by simpa using h)
theorem blen_le_len (n : Nat) : blen n ≤ 32 * (limbs n).length := blen_len (Nat.le_refl _)
theorem blen_zero_iff (n : Nat) : blen n = 0 ↔ (limbs n).length = 0 := by
  by_cases h : n = 0
  · subst h; rw [limbs_zero]; exact ⟨fun _ => rfl, fun _ => rfl⟩
  · have h1 := blen_pos h
    have h2 : 0 < (limbs n).length := by rw [limbs_pos h]; simp
    omega
theorem top_one (n : Nat) (h : 0 < blen n) : bitN n (((blen n : Nat) : Int) - 1) = 1 := by
  have hn : n ≠ 0 := by intro e; subst e; rw [blen_zero] at h; omega
  have e : (((blen n : Nat) : Int) - 1) = ((blen n - 1 : Nat) : Int) := by omega
  rw [e, bitN_nat]
  have h1 := pow_blen_le hn
  have h2 := lt_pow_blen n
  have h3 : n / 2 ^ (blen n - 1) < 2 := by
    rw [Nat.div_lt_iff_lt_mul (Nat.two_pow_pos _), ← Nat.pow_succ', show (blen n - 1).succ = blen n by omega]; exact h2
  have h4 : 0 < n / 2 ^ (blen n - 1) := Nat.div_pos h1 (Nat.two_pow_pos _)
  omega
theorem beyond_zero (n k : Nat) : bitN n (((blen n : Nat) : Int) + (k : Int)) = 0 := by
  have e : (((blen n : Nat) : Int) + (k : Int)) = ((blen n + k : Nat) : Int) := by omega
  rw [e, bitN_nat]
  have h2 := Nat.lt_of_lt_of_le (lt_pow_blen n) (Nat.pow_le_pow_right (show 0 < 2 by decide) (Nat.le_add_right (blen n) k))
  rw [Nat.div_eq_of_lt h2]
theorem next_bit (n k : Nat) : n / 2 ^ k = n / 2 ^ (k + 1) + n / 2 ^ (k + 1) + bitN n (k : Int) := by
  rw [bitN_nat, Nat.pow_succ, ← Nat.div_div_eq_div_mul]
  omega
theorem bitN_le (n : Nat) (i : Int) : bitN n i ≤ 1 := by
  unfold bitN
  split <;> omega
end Go.Proofs.YtigdflfhepelaaaGreatDoor
/- Noughts appended to a row of words. -/
namespace Go.Proofs.YtigdflfhepelaaaGreatDoor
open Go.RowKit
set_option linter.unusedVariables false
set_option maxHeartbeats 400000

theorem wal_zeros_app (o : List Nat) (m : Nat) : wal (o ++ List.replicate m 0) = wal o := by rw [wal_append, wal_zeros, Nat.mul_zero, Nat.add_zero]
theorem zeroCells_one (m : Nat) : Builtin.zeroCells #[Value.int .u64 0] m = (L64 (List.replicate m 0)).toArray := by
  apply Array.ext'
  unfold Builtin.zeroCells
  rw [L64_zeros]
  simp
  apply List.ext_getElem
  · simp
  · intro i h1 h2
    simp at h1 ⊢
    rw [Nat.mod_one]; rfl

theorem run_append_z (w : World) (base g n c m : Nat) (o : List Nat) (hown : Ow w base (.slice (some ⟨g, 0, none⟩) n c) o) (h : n + m ≤ 1000000) (hb : base ≤ w.heap.size) :
    ∃ g' c' w', (Builtin.append_ #[114, 3] 114 #[.slice (some ⟨g, 0, none⟩) n c, .int .i64 (m : Nat)]).run Tryz.prog w = .ok (.slice (some ⟨g', 0, none⟩) (n + m) c') w' ∧
      Ow w' base (.slice (some ⟨g', 0, none⟩) (n + m) c') (o ++ List.replicate m 0) ∧ (g' = g ∨ g' = w.heap.size) ∧ w.grownBy w' (some g) := by
  have hcaps := hown.caps
  have hgb := hown.block
  obtain ⟨i0, hi, hz0, hz1, hz2⟩ := info_parts info64
  have hk : Tryz.prog.underlying 3 = some (.int .i64) := by kernel_rfl
  have hh0 : w.ownsRow base 39 1 (.slice (some ⟨g, 0, none⟩) n c) o.length (L64 o) := hown
  have hmw : IntKind.i64.wrap (m : Int) = (m : Int) := IntWalk.i64_in _ (by omega)
  have hneg : ¬ ((m : Int) < 0) := by omega
  have hmb : ¬ (281474976710656 < (m : Int) * 8) := by omega
  have hzc : (Value.int .u64 0).cells = #[Value.int .u64 0] := rfl
  have ha : ∀ (k : Int) W, Sem.run Tryz.prog (asInt (Value.int IntKind.i64 k)) W = Result.ok k W := fun _ _ => rfl
  have hw0 : IntKind.i64.wrap 0 = 0 := by decide
  rcases hh0.2 with ⟨h1, _⟩ | ⟨g', cap, cur, h1, hg, hh, h2, h3, h4, h5⟩
  · cases h1
  · injection h1 with e1 e2 e3
    injection e1 with e1
    injection e1 with e1
    subst e1 e3
    rw [← e2] at h2 h5
    by_cases hroom : n + m ≤ c
    · have hst := run_storeCells_at Tryz.prog g n 39 (L64 (List.replicate m 0)) 0 cur w hh (by rw [L64_length, List.length_replicate]; omega) (by intro u hu; obtain ⟨z, _, rfl⟩ := List.mem_map.1 hu; rfl)
      simp only [Nat.add_zero] at hst
      have hz1' : ∀ mm, ¬ mm = 0 → (Builtin.zeroCells #[Value.int .u64 0] mm).toList = L64 (List.replicate mm 0) := fun mm _ => by rw [zeroCells_one]
      refine ⟨g, c, w.setRow g (cur.toList.take n ++ L64 (List.replicate m 0) ++ cur.toList.drop (n + (L64 (List.replicate m 0)).length)).toArray, ?_, ?_, .inl rfl, ⟨rfl, rfl, rfl, by simp [World.setRow], fun k _ hk => setRow_other w g k _ (fun e => hk (by rw [e]))⟩⟩
      · rcases Nat.eq_zero_or_pos m with h0 | h0
        · subst h0
          have e : w.setRow g (cur.toList.take n ++ L64 (List.replicate 0 0) ++ cur.toList.drop (n + (L64 (List.replicate 0 0)).length)).toArray = w := by
            have : (cur.toList.take n ++ L64 (List.replicate 0 0) ++ cur.toList.drop (n + (L64 (List.replicate 0 0)).length)).toArray = cur := by simp [L64]
            rw [this, setRow_self w g cur _ _ hh]
          rw [e]
          have hroom' : n ≤ c := by omega
          simp [Builtin.append_, run_underlying Tryz.underlying114, run_underlying hk, sizeOf, typeInfo, hi, hz2, hroom', storeCells, ha, hw0]
        · have h0' : ¬ m = 0 := by omega
          simp [Builtin.append_, run_underlying Tryz.underlying114, run_underlying hk, sizeOf, typeInfo, zeroValue, hi, hz0, hz1, hz2, hroom, hmw, hneg, hmb, h0', hzc, Addr.add_lit, hz1' m h0', hst, ha]
      · have hl : (L64 (List.replicate m 0)).length = m := by rw [L64_length, List.length_replicate]
        refine ⟨by rw [L64_length, Nat.mul_one], .inr ⟨g, c, _, by rw [List.length_append, List.length_replicate, ← e2], hg, setRow_heap w g _ _ _ _ hh, by rw [List.length_append, List.length_replicate, ← e2]; exact hroom, h3, ?_, ?_⟩⟩
        · rw [hl]
          simp only [List.size_toArray, List.length_append, List.length_take, List.length_drop, Array.length_toList (xs := cur), hl]
          omega
        · rw [Nat.mul_one] at h5 ⊢
          rw [h5, List.length_append, List.length_replicate, hl, L64_append]
          rw [List.take_append_of_le_length (by rw [List.length_append, L64_length, hl]; exact Nat.le_refl _), List.take_of_length_le (by rw [List.length_append, L64_length, hl]; exact Nat.le_refl _)]
    · have hm0 : ¬ m = 0 := by omega
      have h63' : ¬ (9223372036854775807 < (n : Int) + (m : Int)) := by omega
      have h48' : ¬ (281474976710656 < Builtin.nextslicecap (n + m) c * 8) := by
        have := growslice_fits (need := n + m) (old := c) (bytes := 8) (by omega) (by omega)
        omega
      have hxl : (L64 o).length = n * 1 := by rw [L64_length, e2, Nat.mul_one]
      have holds : ∀ j u, (L64 o)[j]? = some u → w.cell? ((⟨g, 0, none⟩ : Addr).add j) = some u := hh0.cells (g := g) rfl
      have hfo := run_firstCells_some (P := Tryz.prog) w.drew 1 n ⟨g, 0, none⟩ n c (L64 o) hxl (by simpa using holds)
      have hge := grownCap_ge w (n + m) c 39
      have hcm : grownCap w (n + m) c 39 ≤ maxLen := grownCap_le_maxLen w (n + m) c 39 (by unfold maxLen; omega)
      have hz2' := zeroCells_one m
      refine ⟨w.heap.size, grownCap w (n + m) c 39, w.drew.alloc (.cells ((L64 o).toArray ++ (L64 (List.replicate m 0)).toArray ++ Builtin.zeroCells #[Value.int .u64 0] (grownCap w (n + m) c 39 - (n + m))) 39), ?_, ?_, .inr rfl, ⟨rfl, rfl, rfl, by simp, fun k hk _ => heap_alloc_old w.drew _ hk⟩⟩
      · simp [Builtin.append_, run_underlying Tryz.underlying114, run_underlying hk, sizeOf, typeInfo, zeroValue, hi, hz0, hz1, hz2, hroom, hmw, hneg, hmb, hm0, hzc, h63', h48', Question.forced, hfo, newRow, grownCap, hz2', ha]
        have e3 : ∀ Z : Array Value, (L64 o).toArray ++ ((L64 (List.replicate m 0)).toArray ++ Z) = (L64 o ++ L64 (List.replicate m 0)).toArray ++ Z := fun Z => by apply Array.ext'; simp
        rw [e3]
      · refine ⟨by rw [L64_length, Nat.mul_one], .inr ⟨w.heap.size, _, _, by rw [List.length_append, List.length_replicate, ← e2], hb, heap_alloc_new w.drew _, by rw [List.length_append, List.length_replicate, ← e2]; exact hge, hcm, ?_, ?_⟩⟩
        · simp only [Array.size_append, List.size_toArray, size_zeroCells, L64_length, List.length_replicate]
          rw [← e2]
          simp
          omega
        · simp only [Array.toList_append, Nat.mul_one]
          rw [← L64_append, ← L64_length (o ++ List.replicate m 0)]
          exact List.take_left

theorem wpList_appendZ {w : World} {ops : Array Oper} {rest : List Oper} {o : Oper} {a : Act} {Q : Exit → Act → World → Prop} (hgd : o.guard = none) (s x : Operand) (hty : o.type = 114)
    (ho : o.op = .call { callee := .builtin .append, args := #[s, x], argTypes := #[114, 3] }) (g n c m base : Nat) (os : List Nat) (hs : a.eval s = .slice (some ⟨g, 0, none⟩) n c) (hx : a.eval x = .int .i64 (m : Nat))
    (hown : Ow w base (.slice (some ⟨g, 0, none⟩) n c) os) (hnm : n + m ≤ 1000000) (hb : base ≤ w.heap.size)
    (h : ∀ g' c' w', Ow w' base (.slice (some ⟨g', 0, none⟩) (n + m) c') (os ++ List.replicate m 0) → (g' = g ∨ g' = w.heap.size) → w.grownBy w' (some g) → wpList Tryz.prog ops Q rest (a.put o.dst (.slice (some ⟨g', 0, none⟩) (n + m) c')) w') : wpList Tryz.prog ops Q (o :: rest) a w := by
  obtain ⟨g', c', w', hr, h1, h2, h3⟩ := run_append_z w base g n c m os hown hnm hb
  refine wpList_plain hgd fun K hK => ?_
  unfold Oper.wp execOp
  simp only [ho, resolve, invoke, builtin, Sem.run_bind, Sem.run_pure, Result.andThen_ok, List.map_toArray, List.map_cons, List.map_nil, hs, hx, hty, hr]
  exact hK _ _ (h g' c' w' h1 h2 h3)
end Go.Proofs.YtigdflfhepelaaaGreatDoor
