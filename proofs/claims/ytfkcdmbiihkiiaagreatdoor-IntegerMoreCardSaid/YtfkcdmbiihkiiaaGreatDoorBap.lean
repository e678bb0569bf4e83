/- A word of a quotient, guessed by three words of what is divided and two of the divisor. -/
import Derived.Test.YtfkcdmbiihkiiaaGreatDoorBal
import Derived.Test.YtfkcdmbiihkiiaaGreatDoorBao
import Derived.Deep.RegionHeld3
import Derived.Deep.CutBlock
import Derived.WalkMore

namespace Go.Proofs.YtfkcdmbiihkiiaaGreatDoor
open Go.RowKit
set_option linter.unusedVariables false
set_option maxHeartbeats 400000

/-- A guess that is not below the word of the quotient; r is what the first word leaves. -/
structure GsX (V U v1 t1 q r : Nat) : Prop where
  inv : q * v1 + r = t1
  top : U < (q + 1) * V
  lt : q < 18446744073709551616

theorem gx_first (s vs : List Nat) (k q r v1 t1 : Nat) (hs : s.length = k + 2) (hv : vs.length = k + 1) (hx : ∀ x ∈ s, x < 18446744073709551616) (hv1 : lb vs k = v1) (ht : lb s (k + 1) * 18446744073709551616 + lb s k = t1) (hq : q * v1 + r = t1) (hr : r < v1)
    (hlt : q < 18446744073709551616) : GsX (wal vs) (wal s) v1 t1 q r := by
  refine ⟨hq, ?_, hlt⟩
  have h1 := wal_two s k hs
  have h2 := wal_one vs k hv
  have h3 := take_lt_pow s k (by omega) hx
  have ht' : lb s (k + 1) * BB + lb s k = t1 := ht
  rw [ht'] at h1
  rw [hv1] at h2
  have h4 : t1 + 1 ≤ (q + 1) * v1 := by rw [Nat.add_mul, Nat.one_mul]; omega
  have h5 := Nat.mul_le_mul_right (BB ^ k) h4
  have h6 : (q + 1) * wal vs = (q + 1) * v1 * BB ^ k + (q + 1) * wal (vs.take k) := by rw [h2, Nat.mul_add, Nat.mul_assoc]
  rw [Nat.add_mul t1, Nat.one_mul] at h5
  omega
theorem gx_full (V U v1 u1 t1 : Nat) (h1 : v1 * 18446744073709551616 + u1 = t1) (hUV : U < BB * V) : GsX V U v1 t1 18446744073709551615 (u1 + v1) :=
  ⟨by omega, by simpa [BB] using hUV, by decide⟩
theorem gx_gs {V U v1 t1 q r : Nat} (h : GsX V U v1 t1 q r) (P D T v0 u0 : Nat) : GsI BB P D T V U v1 v0 t1 u0 q r := ⟨h.inv, h.top, h.lt⟩
theorem gx_down (s vs : List Nat) (k q r v1 v0 u0 t1 : Nat) (hs : s.length = k + 3) (hv : vs.length = k + 2) (hx : ∀ x ∈ s, x < 18446744073709551616) (hv1 : lb vs (k + 1) = v1) (hv0 : lb vs k = v0) (hu0 : lb s k = u0)
    (ht : lb s (k + 2) * 18446744073709551616 + lb s (k + 1) = t1) (h : GsX (wal vs) (wal s) v1 t1 q r) (hgt : r * 18446744073709551616 + u0 < q * v0) : 1 ≤ q ∧ GsX (wal vs) (wal s) v1 t1 (q - 1) (r + v1) := by
  have h1 := wal_three s k hs
  have h2 := wal_two vs k hv
  have h3 := take_lt_pow s k (by omega) hx
  have ht' : lb s (k + 2) * BB + lb s (k + 1) = t1 := ht
  rw [ht', hu0] at h1
  rw [hv1, hv0] at h2
  obtain ⟨a, b⟩ := gs_down BB (BB ^ k) (v1 * BB + v0) (t1 * BB + u0) (wal vs) (wal s) v1 v0 (wal (vs.take k)) t1 u0 (wal (s.take k)) q r rfl rfl h2 h1 h3 (gx_gs h _ _ _ _ _) hgt
  exact ⟨a, b.inv, b.top, b.lt⟩
theorem gx_end (s vs : List Nat) (k q r v1 v0 u0 t1 : Nat) (hs : s.length = k + 3) (hv : vs.length = k + 2) (hx : ∀ x ∈ vs, x < 18446744073709551616) (hv1 : lb vs (k + 1) = v1) (hv0 : lb vs k = v0) (hu0 : lb s k = u0)
    (ht : lb s (k + 2) * 18446744073709551616 + lb s (k + 1) = t1) (h : GsX (wal vs) (wal s) v1 t1 q r) (h1v : 1 ≤ v1) (hle : q * v0 ≤ r * 18446744073709551616 + u0) : q * wal vs ≤ wal s + wal vs := by
  have h1 := wal_three s k hs
  have h2 := wal_two vs k hv
  have h3 := take_lt_pow vs k (by omega) hx
  have ht' : lb s (k + 2) * BB + lb s (k + 1) = t1 := ht
  rw [ht', hu0] at h1
  rw [hv1, hv0] at h2
  exact gs_end BB (BB ^ k) (v1 * BB + v0) (t1 * BB + u0) (wal vs) (wal s) v1 v0 (wal (vs.take k)) t1 u0 (wal (s.take k)) q r rfl rfl h2 h1 (by omega) (by have := Nat.mul_le_mul_right BB h1v; omega) (gx_gs h _ _ _ _ _) hle
theorem gx_one (s vs : List Nat) (q r v1 t1 : Nat) (hs : s.length = 2) (hv : vs.length = 1) (hv1 : lb vs 0 = v1) (ht : lb s 1 * 18446744073709551616 + lb s 0 = t1) (h : GsX (wal vs) (wal s) v1 t1 q r) : q * wal vs ≤ wal s + wal vs := by
  have h1 := wal_two s 0 hs
  have h2 := wal_one vs 0 hv
  have ht' : lb s (0 + 1) * BB + lb s 0 = t1 := ht
  rw [ht', Nat.pow_zero, List.take_zero] at h1
  rw [hv1, Nat.pow_zero, List.take_zero] at h2
  have e0 : wal [] = 0 := rfl
  rw [e0] at h1 h2
  rw [h2, h1]
  have := h.inv
  simp only [Nat.mul_one, Nat.add_zero]
  omega

theorem i64_fit {k : Nat} (h : k ≤ 1000000) : IntKind.i64.wrap (k : Int) = (k : Int) := by rw [IntKind.wrap_i64]; omega
theorem u64_fit {k : Nat} (h : k < 18446744073709551616) : IntKind.u64.wrap (k : Int) = (k : Int) := by rw [IntKind.wrap_u64]; omega
theorem u64_mod {k : Nat} (h : k < 18446744073709551616) : (k : Int) % 18446744073709551616 = (k : Int) := by omega
theorem sub_one (z y s c : Nat) (hz : z < 18446744073709551616) (hy : y < 18446744073709551616) (hs : (z + 18446744073709551616 - y - 0) % 18446744073709551616 = s) (hc : (if z < y + 0 then 1 else 0) = c) : s + y = z + 18446744073709551616 * c := by
  split at hc <;> omega
/-- Two cells are kept. -/
theorem keep2 {w x y : World} {p q : Addr} {v1 v2 : Value} (hp : p.block < w.heap.size) (hq : q.block < w.heap.size) (h : (x.cell? p = some v1 ∧ x.cell? q = some v2) ∧ Ext w x) (hB : Ext x y) : (y.cell? p = some v1 ∧ y.cell? q = some v2) ∧ Ext w y := by
  obtain ⟨⟨h0, h1⟩, h2⟩ := h
  have hs := h2.size
  exact ⟨⟨by rw [hB.cell (by omega)]; exact h0, by rw [hB.cell (by omega)]; exact h1⟩, h2.below hB⟩

set_option maxRecDepth 100000 in
set_option maxHeartbeats 8000000 in
theorem guess_calls (w : World) (g1 g2 : Nat) (vu vv : Value) (s vs : List Nat) (hu : V g1 w vu s) (hv : V g2 w vv vs) (n k : Nat) (hk : n = k + 1) (hs : s.length = n + 1) (hvs : vs.length = n) (hn : n ≤ 1000000)
    (top : 9223372036854775808 ≤ lb vs k) (hlt : wal s < BB * wal vs) :
    Calls Tryz.prog 162 #[vu, vv] w fun e w' => (∃ q, e = .returned (.int .u64 (q : Nat)) ∧ q < 18446744073709551616 ∧ wal s < (q + 1) * wal vs ∧ q * wal vs ≤ wal s + wal vs) ∧ Ext w w' := by
  have hxs := hu.lim
  have hxv := hv.lim
  have hle := top_le s vs k (by omega) (by omega) hxv hlt
  obtain ⟨au, cu, rfl, hcu, hbu, hgu, hcellu⟩ := hu.opened (n := n + 1) hs (by omega)
  obtain ⟨av, cv, rfl, hcv, hbv, hgv, hcellv⟩ := hv.opened (n := n) hvs (by omega)
  obtain ⟨v1, hv1⟩ : ∃ v1, lb vs k = v1 := ⟨_, rfl⟩
  obtain ⟨u1, hu1⟩ : ∃ u1, lb s k = u1 := ⟨_, rfl⟩
  obtain ⟨u2, hu2⟩ : ∃ u2, lb s (k + 1) = u2 := ⟨_, rfl⟩
  obtain ⟨t1, ht1⟩ : ∃ t1, u2 * 18446744073709551616 + u1 = t1 := ⟨_, rfl⟩
  have cv1 := hcellv k (by omega)
  have cu1 := hcellu k (by omega)
  have cu2 := hcellu n (by omega)
  have hv1b : v1 < 18446744073709551616 := by rw [← hv1]; exact lb_lt_of (by decide) hxv k
  have hu1b : u1 < 18446744073709551616 := by rw [← hu1]; exact lb_lt_of (by decide) hxs k
  have hu2b : u2 < 18446744073709551616 := by rw [← hu2]; exact lb_lt_of (by decide) hxs (k + 1)
  rw [hv1] at cv1 hle top
  rw [hu1] at cu1
  rw [hk] at cu2
  rw [hu2, ← hk] at cu2
  rw [hu2] at hle
  have HA : Hid (∀ q r, q * v1 + r = t1 → r < v1 → q < 18446744073709551616 → GsX (wal vs) (wal s) v1 t1 q r) := fun q r h1 h2 h3 => gx_first s vs k q r v1 t1 (by omega) (by omega) hxs hv1 (by rw [hu2, hu1]; exact ht1) h1 h2 h3
  have HF : Hid (u2 = v1 → GsX (wal vs) (wal s) v1 t1 18446744073709551615 (u1 + v1)) := fun e => gx_full _ _ v1 u1 t1 (by rw [← e]; exact ht1) hlt
  have HD : Hid (∀ j v0 u0 q r, n = j + 2 → lb vs j = v0 → lb s j = u0 → GsX (wal vs) (wal s) v1 t1 q r → r * 18446744073709551616 + u0 < q * v0 → 1 ≤ q ∧ GsX (wal vs) (wal s) v1 t1 (q - 1) (r + v1)) := fun j v0 u0 q r hj h1 h2 h3 h4 =>
    gx_down s vs j q r v1 v0 u0 t1 (by omega) (by omega) hxs (by rw [← hv1]; congr 1; omega) h1 h2 (by rw [show j + 2 = k + 1 by omega, show j + 1 = k by omega, hu2, hu1]; exact ht1) h3 h4
  have HE : Hid (∀ j v0 u0 q r, n = j + 2 → lb vs j = v0 → lb s j = u0 → GsX (wal vs) (wal s) v1 t1 q r → q * v0 ≤ r * 18446744073709551616 + u0 → q * wal vs ≤ wal s + wal vs) := fun j v0 u0 q r hj h1 h2 h3 h4 =>
    gx_end s vs j q r v1 v0 u0 t1 (by omega) (by omega) hxv (by rw [← hv1]; congr 1; omega) h1 h2 (by rw [show j + 2 = k + 1 by omega, show j + 1 = k by omega, hu2, hu1]; exact ht1) h3 (by omega) h4
  have HO : Hid (n = 1 → ∀ q r, GsX (wal vs) (wal s) v1 t1 q r → q * wal vs ≤ wal s + wal vs) := fun e q r h => by
    have e0 : k = 0 := by omega
    rw [e0] at hv1 hu1 hu2
    exact gx_one s vs q r v1 t1 (by omega) (by omega) hv1 (by rw [hu2, hu1]; exact ht1) h
  have HDV : Hid (u2 < v1 → ∃ q r, (u2 * 18446744073709551616 + u1) / v1 = q ∧ (u2 * 18446744073709551616 + u1) % v1 = r ∧ q * v1 + r = t1 ∧ r < v1 ∧ q < 18446744073709551616) := fun h => by
    refine ⟨_, _, rfl, rfl, by rw [← ht1, Nat.mul_comm (_ / _)]; exact Nat.div_add_mod _ _, Nat.mod_lt _ (by omega), ?_⟩
    exact Nat.div_lt_of_lt_mul (by have := Nat.mul_le_mul_right 18446744073709551616 (show u2 + 1 ≤ v1 from h); omega)
  have HLV : Hid (∀ j, lb vs j < 18446744073709551616) := fun j => lb_lt_of (by decide) hxv j
  have HLS : Hid (∀ j, lb s j < 18446744073709551616) := fun j => lb_lt_of (by decide) hxs j
  have HCV := Lib.hid hcellv
  have HCU := Lib.hid hcellu
  have e1 : (n : Int) - 1 = (k : Int) := by omega
  have e2 : k < n := by omega
  have e3 : (n : Int) < (n : Int) + 1 := by omega
  have e4 : (k : Int) < (n : Int) + 1 := by omega
  have e5 : k < n + 1 := by omega
  obtain ⟨r0, hr0⟩ : ∃ r0, (u1 + v1) % 18446744073709551616 = r0 := ⟨_, rfl⟩
  have a1 : ((u1 : Int) + (v1 : Int)) % 18446744073709551616 = (r0 : Int) := by omega
  have a2 : IntKind.u64.wrap ((u1 : Int) + (v1 : Int)) = (r0 : Int) := by rw [IntKind.wrap_u64]; exact a1
  have hr0b : r0 < 18446744073709551616 := by omega
  have a3 : IntKind.u64.wrap (r0 : Int) = (r0 : Int) := by rw [IntKind.wrap_u64]; omega
  have HR0 := Lib.hid hr0
  have HT := Lib.hid (And.intro hv1b (And.intro hu1b (And.intro hu2b (And.intro hle (And.intro top hr0b)))))
  have k1 := i64_fit (show k ≤ 1000000 by omega)
  have k2 := i64_fit hn
  have k3 : (0 : Int) ≤ (k : Int) := Int.natCast_nonneg k
  have k4 : (0 : Int) ≤ (n : Int) := Int.natCast_nonneg n
  have hE0 := Ext.refl w
  have HK := Lib.hid hk
  clear hk hxs hxv hlt hv hu hs hvs hcellu hcellv hu1 hu2 hv1 ht1 hv1b hu1b hu2b hle top hr0 hr0b hcu hcv hgu hgv
  obtain ⟨b0, hb0⟩ : ∃ b0 : Bool, decide (r0 < v1) = b0 := ⟨_, rfl⟩
  have HB0 := Lib.hid hb0
  go_enter Tryz.func162, Tryz.ntmps162
  go_wp2
  go_step3
  go_wp2_with (fail)
  go_region
  go_upto_if 34 with (fail)
  have hS0 : (w.drew.drew.cell? (au.add n) = some (.int .u64 (u2 : Nat)) ∧ w.drew.drew.cell? (au.add k) = some (.int .u64 (u1 : Nat))) ∧ Ext w w.drew.drew := ⟨⟨cu2, cu1⟩, hE0.drew.drew⟩
  have hpn : (au.add n).block < w.heap.size := by rw [addr_add_block]; exact hbu
  have hpk : (au.add k).block < w.heap.size := by rw [addr_add_block]; exact hbu
  go_cut [7, 8, 9] from 12 (fun s7 s8 s9 wx => ∃ (q r r' : Nat) (b : Bool), s7 = .int .u64 (q : Nat) ∧ s8 = .int .u64 (r' : Nat) ∧ s9 = .bool b ∧ Hid (GsX (wal vs) (wal s) v1 t1 q r ∧ r % 18446744073709551616 = r' ∧ decide (18446744073709551616 ≤ r) = b) ∧ Ext w wx)
  case first =>
    obtain ⟨hv1b, hu1b, hu2b, hle, top, hr0b⟩ := HT.out
    by_cases h : u2 < v1
    · obtain ⟨q, r, h1, h2, h3, h4, h5⟩ := HDV.out h
      have hdv := Lib.hid (fun W => div64_calls W u2 u1 v1 q r top hv1b hu1b h h1 h2)
      have HG : Hid (GsX (wal vs) (wal s) v1 t1 q r ∧ r % 18446744073709551616 = r ∧ decide (18446744073709551616 ≤ r) = false) := ⟨HA.out q r h3 h4 h5, Nat.mod_eq_of_lt (by omega), by rw [decide_eq_false_iff_not]; omega⟩
      clear hv1b hu1b hu2b hle top hr0b h1 h2 h3 h4 h5
      go_wp2_with (fail)
      go_region_held3 (fun X => (X.cell? (au.add n) = some (.int .u64 (u2 : Nat)) ∧ X.cell? (au.add k) = some (.int .u64 (u1 : Nat))) ∧ Ext w X)
        (first
          | exact hS0
          | exact keep2 hpn hpk (by assumption) (by assumption))
        (first
          | (go_at_call 187; ((with_reducible refine (hdv.out _).mono ?_); rintro e w1 ⟨rfl, hB⟩)))
      go_wp2_with (fail)
      go_meet
      case rel =>
        go_split_ands
        exact ⟨q, r, r, false, rfl, rfl, rfl, HG, by assumption⟩
    · have e : u2 = v1 := by omega
      have HG : Hid (GsX (wal vs) (wal s) v1 t1 18446744073709551615 (u1 + v1) ∧ (u1 + v1) % 18446744073709551616 = r0 ∧ decide (18446744073709551616 ≤ u1 + v1) = b0) := ⟨HF.out e, HR0.out, by rw [← HB0.out]; have := HR0.out; exact decide_eq_decide.2 ⟨fun g => by omega, fun g => by omega⟩⟩
      clear hv1b hu1b hu2b hle top hr0b e
      go_wp2_with (fail)
      go_meet
      case rel => exact ⟨18446744073709551615, u1 + v1, r0, b0, rfl, rfl, rfl, HG, hE0.drew⟩
  case rest =>
    obtain ⟨q, r, r', b, rfl, rfl, rfl, HG, hE⟩ := hcut
    clear hS0 cu1 cu2 cv1 a1 a2 a3 hE0 hb0 HDV HA HF HB0 HR0
    by_cases h1 : n = 1
    · have hn1 : ((n : Int) == 1) = true := by rw [beq_iff_eq]; omega
      have HFN : Hid (∃ q', Ending.returned (.int .u64 (q : Nat)) = .returned (.int .u64 (q' : Nat)) ∧ q' < 18446744073709551616 ∧ wal s < (q' + 1) * wal vs ∧ q' * wal vs ≤ wal s + wal vs) := ⟨q, rfl, HG.out.1.lt, HG.out.1.top, HO.out h1 q r HG.out.1⟩
      clear HG HD HE HO hpn hpk
      go_wp2
      rw [Exit.noGoto_ret]
      go_ret
      exact ⟨HFN.out, hE⟩
    · obtain ⟨j, hj⟩ : ∃ j, n = j + 2 := ⟨n - 2, by have := HK.out; omega⟩
      have hn1 : ((n : Int) == 1) = false := by rw [beq_eq_false_iff_ne]; omega
      have hn2 : ¬ ((n : Int) = 1) := by omega
      obtain ⟨v0, hv0⟩ : ∃ v0, lb vs j = v0 := ⟨_, rfl⟩
      obtain ⟨u0, hu0⟩ : ∃ u0, lb s j = u0 := ⟨_, rfl⟩
      have cv0 := HCV.out j (by omega)
      have cu0 := HCU.out j (by omega)
      have hv0b := HLV.out j
      have hu0b := HLS.out j
      rw [hv0] at cv0 hv0b
      rw [hu0] at cu0 hu0b
      have HD2 := Lib.hid (fun q r => HD.out j v0 u0 q r hj hv0 hu0)
      have HE2 := Lib.hid (fun q r => HE.out j v0 u0 q r hj hv0 hu0)
      have f1 : (n : Int) - 2 = (j : Int) := by omega
      have f2 : j < n := by omega
      have f3 : j < n + 1 := by omega
      have HB := Lib.hid (And.intro hv0b hu0b)
      have hpv : (av.add j).block < w.heap.size := by rw [addr_add_block]; exact hbv
      have hpu : (au.add j).block < w.heap.size := by rw [addr_add_block]; exact hbu
      clear hj hv0 hu0 hv0b hu0b HD HE HO HCV HCU HLV HLS HK
      go_wp2
      go_step3
      go_wp2
      go_loopw [7, 8, 9] (fun s7 s8 s9 wr => ∃ (q r r' : Nat) (b : Bool), s7 = .int .u64 (q : Nat) ∧ s8 = .int .u64 (r' : Nat) ∧ s9 = .bool b ∧ Hid (GsX (wal vs) (wal s) v1 t1 q r ∧ r % 18446744073709551616 = r' ∧ decide (18446744073709551616 ≤ r) = b) ∧ Ext w wr) (fun s7 _ _ _ => (intOf s7).toNat)
      case atStart => exact ⟨q, r, r', b, rfl, rfl, rfl, HG, hE⟩
      case round =>
        clear HG hE
        obtain ⟨q, r, r', b, rfl, rfl, rfl, HG, hE⟩ := hrel
        obtain ⟨hg, hr, hb⟩ := HG.out
        obtain ⟨hv0b, hu0b⟩ := HB.out
        obtain ⟨hv1b, -⟩ := HT.out
        have hql := hg.lt
        cases b with
        | true =>
          rw [decide_eq_true_iff] at hb
          have HFN : Hid (∃ q', Ending.returned (.int .u64 (q : Nat)) = .returned (.int .u64 (q' : Nat)) ∧ q' < 18446744073709551616 ∧ wal s < (q' + 1) * wal vs ∧ q' * wal vs ≤ wal s + wal vs) := ⟨q, rfl, hql, hg.top, HE2.out q r hg (by
            have e1 : q * v0 ≤ 18446744073709551616 * 18446744073709551616 := Nat.mul_le_mul (by omega) (by omega)
            have e2 : 18446744073709551616 * 18446744073709551616 ≤ r * 18446744073709551616 := Nat.mul_le_mul_right _ hb
            omega)⟩
          clear hg hr hb hv0b hu0b hv1b hql HG HD2 HE2
          go_wp2
          rw [Exit.noGoto_ret]
          go_ret
          exact ⟨HFN.out, hE⟩
        | false =>
          rw [decide_eq_false_iff_not] at hb
          obtain rfl : r' = r := by omega
          have cv0' := (hE.cell hpv).trans cv0
          have cu0' := (hE.cell hpu).trans cu0
          obtain ⟨p, hp⟩ : ∃ p, q * v0 = p := ⟨_, rfl⟩
          have hpb : p ≤ 340282366920938463426481119284349108225 := by rw [← hp]; exact sq64 hql hv0b
          obtain ⟨ph, hph⟩ : ∃ ph, p / 18446744073709551616 = ph := ⟨_, rfl⟩
          obtain ⟨pl, hpl⟩ : ∃ pl, p % 18446744073709551616 = pl := ⟨_, rfl⟩
          have hMul : Hid (∀ W, Calls Tryz.prog 163 #[.int .u64 (q : Nat), .int .u64 (v0 : Nat)] W fun e w' => e = .returned (.tuple #[.int .u64 (ph : Nat), .int .u64 (pl : Nat)]) ∧ w' = W) := by
            intro W
            have := mul64_calls q v0 hql hv0b W
            rw [hp, hph, hpl] at this
            exact this
          by_cases hle : p ≤ r' * 18446744073709551616 + u0
          · have HFN : Hid (∃ q', Ending.returned (.int .u64 (q : Nat)) = .returned (.int .u64 (q' : Nat)) ∧ q' < 18446744073709551616 ∧ wal s < (q' + 1) * wal vs ∧ q' * wal vs ≤ wal s + wal vs) := ⟨q, rfl, hql, hg.top, HE2.out q r' hg (by rw [hp]; exact hle)⟩
            rcases (show ph < r' ∨ ph = r' ∧ pl ≤ u0 by omega) with h | ⟨h, h2⟩
            · clear hle hpb hph hpl hp hql hg hr hb hv0b hu0b hv1b HG HD2 HE2
              go_wp2_with (fail)
              refine (hMul.out _).mono ?_
              rintro e w' ⟨rfl, rfl⟩
              clear hMul
              go_wp2
              rw [Exit.noGoto_ret]
              go_ret
              exact ⟨HFN.out, hE⟩
            · subst h
              have h3 : ¬ ph < ph := by omega
              have h4 : ((ph : Int) == (ph : Int)) = true := by rw [beq_iff_eq]
              clear hle hpb hph hpl hp hql hg hr hb hv0b hu0b hv1b HG HD2 HE2
              go_wp2_with (fail)
              refine (hMul.out _).mono ?_
              rintro e w' ⟨rfl, rfl⟩
              clear hMul
              go_wp2
              rw [Exit.noGoto_ret]
              go_ret
              exact ⟨HFN.out, hE⟩
          · obtain ⟨hq1, hg2⟩ := HD2.out q r' hg (by rw [hp]; omega)
            obtain ⟨q2, hq2⟩ : ∃ q2, q - 1 = q2 := ⟨_, rfl⟩
            rw [hq2] at hg2
            obtain ⟨r2, hr2⟩ : ∃ r2, (r' + v1) % 18446744073709551616 = r2 := ⟨_, rfl⟩
            obtain ⟨b2, hb2⟩ : ∃ b2 : Bool, decide (r2 < v1) = b2 := ⟨_, rfl⟩
            have HG2 : Hid (GsX (wal vs) (wal s) v1 t1 q2 (r' + v1) ∧ (r' + v1) % 18446744073709551616 = r2 ∧ decide (18446744073709551616 ≤ r' + v1) = b2) := ⟨hg2, hr2, by rw [← hb2]; exact decide_eq_decide.2 ⟨fun g => by omega, fun g => by omega⟩⟩
            have g1 : (q : Int) - 1 = (q2 : Int) := by omega
            have g2 : (q2 : Int) % 18446744073709551616 = (q2 : Int) := by omega
            have g3 : IntKind.u64.wrap (q2 : Int) = (q2 : Int) := by rw [IntKind.wrap_u64]; omega
            have g4 : ((r' : Int) + (v1 : Int)) % 18446744073709551616 = (r2 : Int) := by omega
            have g5 : IntKind.u64.wrap ((r' : Int) + (v1 : Int)) = (r2 : Int) := by rw [IntKind.wrap_u64]; exact g4
            have HQ : Hid (q2 < q) := by show q2 < q; omega
            have h3 : ¬ ph < r' := by omega
            rcases (show ¬ ph = r' ∨ ph = r' ∧ ¬ pl ≤ u0 by omega) with h | ⟨h, h2⟩
            · have h4 : ((ph : Int) == (r' : Int)) = false := by rw [beq_eq_false_iff_ne]; omega
              clear hle hpb hph hpl hp hql hg hr hb hv0b hu0b hv1b HG HD2 HE2 hq1 hg2 hq2 hr2
              go_wp2_with (fail)
              refine (hMul.out _).mono ?_
              rintro e w' ⟨rfl, rfl⟩
              clear hMul
              go_wp2
              go_roundw
              case rel => exact ⟨q2, r' + v1, r2, b2, rfl, rfl, by first | rfl | exact congrArg Value.bool hb2, HG2, hE⟩
              case measure => have := HQ.out; simp [intOf]; omega
            · subst h
              have h4 : ((ph : Int) == (ph : Int)) = true := by rw [beq_iff_eq]
              have h5 : decide ((pl : Int) ≤ (u0 : Int)) = false := by rw [decide_eq_false_iff_not]; omega
              clear hle hpb hph hpl hp hql hg hr hb hv0b hu0b hv1b HG HD2 HE2 hq1 hg2 hq2 hr2
              go_wp2_with (fail)
              refine (hMul.out _).mono ?_
              rintro e w' ⟨rfl, rfl⟩
              clear hMul
              go_wp2
              go_roundw
              case rel => exact ⟨q2, ph + v1, r2, b2, rfl, rfl, by first | rfl | exact congrArg Value.bool hb2, HG2, hE⟩
              case measure => have := HQ.out; simp [intOf]; omega
end Go.Proofs.YtfkcdmbiihkiiaaGreatDoor
/- A word of a quotient, and what is left. -/
namespace Go.Proofs.YtfkcdmbiihkiiaaGreatDoor
open Go.RowKit
set_option linter.unusedVariables false
set_option maxHeartbeats 400000

theorem addr_off (g off j : Nat) : (⟨g, off, none⟩ : Addr).add j = ⟨g, off + j, none⟩ := by
  unfold Addr.add
  by_cases h : j = 0 <;> simp [h]
/-- A part of a row is read. -/
theorem Ow.part {w : World} {base g n c : Nat} {pre s post : List Nat} (h : Ow w base (.slice (some ⟨g, 0, none⟩) n c) (Sg pre s post)) {off m zc : Nat} (hpre : pre.length = off) (hs : s.length = m) (hx : ∀ x ∈ s, x < 18446744073709551616) (hn : n ≤ 1000000) (hzc : m ≤ zc) (q : Nat) (hq : g ≠ q) :
    V q w (.slice (some ⟨g, off, none⟩) m zc) s := by
  obtain ⟨e, h1, h2⟩ := h.caps
  rw [sg_len] at e
  refine ⟨_, zc, by rw [hs], ⟨by omega, by omega⟩, hx, fun h0 => ⟨_, rfl, h.block.2, hq, fun j hj => ?_⟩⟩
  rw [addr_off, h.cell (j := off + j) (by omega), sg_lb _ _ _ _ _ hpre hj]
theorem dg_lt (n T : Nat) (s0 s : List Nat) (bo t : Nat) (h : DgI (n + 1) (wal s0) T n s0 s bo) (ht : lb s0 n = t) (hb : t < bo) : wal s0 < T := by
  have h1 := wal_lt_top s n h.len h.lt
  rw [h.out n (Nat.le_refl _), ht] at h1
  have h2 := h.val
  have h3 : BB ^ n * (t + 1) ≤ BB ^ n * bo := Nat.mul_le_mul_left _ hb
  omega
/-- What is left at the end, either way. -/
theorem dg_end1 (V q A S : Nat) (h : S + V * q = A) (ht : A < (q + 1) * V) : q * V + S = A ∧ S < V := by
  rw [Nat.mul_comm V q] at h
  rw [Nat.add_mul, Nat.one_mul] at ht
  omega
theorem dg_end2 (V q1 A S : Nat) (h : S + q1 * V = A) (ht : A < V * (q1 + 1)) : q1 * V + S = A ∧ S < V := by
  rw [Nat.mul_add, Nat.mul_one, Nat.mul_comm V q1] at ht
  omega

set_option maxRecDepth 100000 in
set_option maxHeartbeats 8000000 in
theorem digit_calls (w : World) (g base N c off zc : Nat) (pre s post vs : List Nat) (vv : Value) (hown : Ow w base (.slice (some ⟨g, 0, none⟩) N c) (Sg pre s post)) (hx : ∀ x ∈ s, x < 18446744073709551616) (hpre : pre.length = off)
    (m k : Nat) (hk : m = k + 1) (hs : s.length = m + 1) (hvs : vs.length = m) (hzc : m + 1 ≤ zc) (hN : N ≤ 1000000) (hv : V g w vv vs) (top : 9223372036854775808 ≤ lb vs k) (hlt : wal s < BB * wal vs) :
    Calls Tryz.prog 151 #[.slice (some ⟨g, off, none⟩) (m + 1 : Nat) zc, vv] w fun e w' => (∃ q s', e = .returned (.int .u64 (q : Nat)) ∧ q < 18446744073709551616 ∧ s'.length = m + 1 ∧ (∀ x ∈ s', x < 18446744073709551616) ∧ q * wal vs + wal s' = wal s ∧ wal s' < wal vs ∧
      Ow w' base (.slice (some ⟨g, 0, none⟩) N c) (Sg pre s' post)) ∧ But g w w' := by
  obtain ⟨hcap, hcap1, hcap2⟩ := hown.caps
  rw [sg_len, hpre, hs] at hcap
  have hu : V (g + 1) w (.slice (some ⟨g, off, none⟩) (m + 1) zc) s := hown.part hpre hs hx hN hzc (g + 1) (by omega)
  have hGu := Lib.hid (guess_calls w (g + 1) g _ vv s vs hu hv m k hk hs hvs (by omega) top hlt)
  have hgb := hown.block.2
  have HPRE := Lib.hid hpre
  have HS := Lib.hid hs
  have hxv := hv.lim
  have HXV : Hid (∀ j, lb vs j < 18446744073709551616) := fun j => lb_lt_of (by decide) hxv j
  have HTK := Lib.hid (fun j (h : j < m) => wal_take_succ vs j (by omega))
  have HT2 : Hid (vs.take m = vs) := by rw [Hid, ← hvs]; exact List.take_length
  have HD0 : Hid (∀ q, DgI (m + 1) (wal s) (wal (vs.take 0) * q) 0 s s 0) := fun q => ⟨hs, hx, by decide, by simp [wal], fun m _ => rfl⟩
  have HT0 : Hid (lb s m < 18446744073709551616) := lb_lt_of (by decide) hx m
  obtain ⟨t, ht⟩ : ∃ t, lb s m = t := ⟨_, rfl⟩
  have HT := Lib.hid ht
  have hoff : off + m < N := by omega
  have hm1 : m ≤ 1000000 := by omega
  obtain ⟨av, cv, rfl, hcv, hbv, hgv, hcellv⟩ := hv.opened (n := m) hvs (by omega)
  have hmi : ((m + 1 : Nat) : Int) = (m : Int) + 1 := by omega
  have e3 : (m : Int) < (m : Int) + 1 := by omega
  have e4 : m ≤ zc := by omega
  have e5 : (m : Int) ≤ (zc : Int) := by omega
  clear hu hv hx hpre hs hvs top hlt hcap hcap1 hcap2 ht hxv hk
  go_enter Tryz.func151, Tryz.ntmps151
  go_wp2_with (fail)
  refine hGu.out.mono ?_
  rintro e w1 ⟨⟨q, rfl, hq, hq1, hq2⟩, hB⟩
  have hB0 : But g w w1 := (But.refl g w).ext hB
  replace hown := hown.ext hB
  have HQ1 := Lib.hid hq1
  have HQ2 := Lib.hid hq2
  clear hB hq1 hq2 hGu
  go_wp2
  go_loopw [29, 7] (fun t7 s7 wr => ∃ (i : Nat) (s' : List Nat) (bo : Nat), i ≤ m ∧ t7 = .int .i64 (i : Nat) ∧ s7 = .int .u64 (bo : Nat) ∧ Hid (DgI (m + 1) (wal s) (wal (vs.take i) * q) i s s' bo) ∧ Ow wr base (.slice (some ⟨g, 0, none⟩) N c) (Sg pre s' post) ∧ But g w wr) (fun t7 _ _ => m - (intOf t7).toNat)
  case atStart => exact ⟨0, s, 0, Nat.zero_le _, rfl, rfl, HD0.out q, hown, hB0⟩
  case round =>
    clear hown hB0
    obtain ⟨i, s', bo, hi, rfl, rfl, HO, hown, hB⟩ := hrel
    by_cases hlt : i < m
    · have hc0 := (hB.cell (p := av.add i) (by rw [addr_add_block]; exact hbv) (by rw [addr_add_block]; exact hgv)).trans (hcellv i hlt)
      have hy := HXV.out i
      have htk := HTK.out i hlt
      have hl := HO.out.len
      have hcz := hown.cell (j := off + i) (by omega)
      rw [sg_lb _ _ _ _ _ HPRE.out (by omega)] at hcz
      have hf := hown.frozen (off + i)
      have hx1 : lb s' i < 18446744073709551616 := lb_lt_of (by decide) HO.out.lt _
      have hcy := HO.out.b1
      obtain ⟨x, hxx⟩ : ∃ x, lb vs i = x := ⟨_, rfl⟩
      rw [hxx] at hc0 hy htk
      obtain ⟨z, hzz⟩ : ∃ z, lb s' i = z := ⟨_, rfl⟩
      rw [hzz] at hcz hx1
      obtain ⟨p, hp⟩ : ∃ p, x * q = p := ⟨_, rfl⟩
      have hp1 : p ≤ 340282366920938463426481119284349108225 := by rw [← hp]; exact sq64 hy hq
      obtain ⟨ph, hph⟩ : ∃ ph, p / 18446744073709551616 = ph := ⟨_, rfl⟩
      obtain ⟨pl, hpl⟩ : ∃ pl, p % 18446744073709551616 = pl := ⟨_, rfl⟩
      obtain ⟨s1, hs1⟩ : ∃ s1, (z + 18446744073709551616 - pl - 0) % 18446744073709551616 = s1 := ⟨_, rfl⟩
      obtain ⟨c1, hc1⟩ : ∃ c1, (if z < pl + 0 then 1 else 0) = c1 := ⟨_, rfl⟩
      obtain ⟨s2, hs2⟩ : ∃ s2, (s1 + 18446744073709551616 - bo - 0) % 18446744073709551616 = s2 := ⟨_, rfl⟩
      obtain ⟨c2, hc2⟩ : ∃ c2, (if s1 < bo + 0 then 1 else 0) = c2 := ⟨_, rfl⟩
      have hplb : pl < 18446744073709551616 := by rw [← hpl]; exact Nat.mod_lt _ (by decide)
      have hs1b : s1 < 18446744073709551616 := by rw [← hs1]; exact Nat.mod_lt _ (by decide)
      have hs2b : s2 < 18446744073709551616 := by rw [← hs2]; exact Nat.mod_lt _ (by decide)
      have q1 : s1 + pl = z + 18446744073709551616 * c1 := sub_one z pl s1 c1 hx1 hplb hs1 hc1
      have q2 : s2 + bo = s1 + 18446744073709551616 * c2 := sub_one s1 bo s2 c2 hs1b hcy hs2 hc2
      obtain ⟨hst1, hst2, hst3⟩ := ms_step x q bo z s1 c1 s2 c2 ph pl (ph + c1 + c2) hy hq hcy hx1 (by rw [hp, ← hph, ← hpl]; exact (Nat.div_add_mod _ _).symm) hplb q1 hs1b q2 hs2b rfl
      have hst := HO.out.step (by omega) p s2 (ph + c1 + c2) (by rw [hzz, ← hp]; exact hst1) hs2b hst2
      rw [← hp, ← Nat.mul_assoc, ← Nat.add_mul, ← htk] at hst
      have HST := Lib.hid hst
      have hown2 := hown.set_ (off + i) s2
      rw [sg_set _ _ _ _ _ _ HPRE.out (by omega)] at hown2
      have hB2 := hB.setCell (off + i) (.int .u64 (s2 : Nat))
      have hMul : Hid (∀ W, Calls Tryz.prog 163 #[.int .u64 (x : Nat), .int .u64 (q : Nat)] W fun e w' => e = .returned (.tuple #[.int .u64 (ph : Nat), .int .u64 (pl : Nat)]) ∧ w' = W) := by
        intro W
        have := mul64_calls x q hy hq W
        rw [hp, hph, hpl] at this
        exact this
      have hadd1 : ∀ w, (callFunc 164 #[.int .u64 (z : Nat), .int .u64 (pl : Nat), .int .u64 0]).run Tryz.prog w = .ok (.value (.tuple #[.int .u64 (s1 : Nat), .int .u64 (c1 : Nat)])) w := run_subc z pl 0 s1 c1 (Nat.zero_le _) hs1 hc1
      have hadd2 : ∀ w, (callFunc 164 #[.int .u64 (s1 : Nat), .int .u64 (bo : Nat), .int .u64 0]).run Tryz.prog w = .ok (.value (.tuple #[.int .u64 (s2 : Nat), .int .u64 (c2 : Nat)])) w := run_subc s1 bo 0 s2 c2 (Nat.zero_le _) hs2 hc2
      obtain ⟨d1, hd1⟩ : ∃ d1, ph + c1 = d1 := ⟨_, rfl⟩
      obtain ⟨d, hd⟩ : ∃ d, d1 + c2 = d := ⟨_, rfl⟩
      rw [hd1] at hst3 HST hst2
      rw [hd] at HST hst2
      have f1 : (ph : Int) + (c1 : Int) = (d1 : Int) := by rw [← hd1]; rfl
      have f2 : (d1 : Int) + (c2 : Int) = (d : Int) := by rw [← hd]; rfl
      have f3 := u64_fit hst3
      have f4 := u64_fit hst2
      have f5 := u64_mod hst3
      have f6 := u64_mod hst2
      clear hst htk hxx hzz hp hph hpl hs1 hc1 hs2 hc2 hown hB HO hd hd1 hp1 hst1 hst2 hst3 q1 q2 hplb hs1b hs2b hy hx1 hcy hl
      go_wp2_with (fail)
      refine (hMul.out _).mono ?_
      rintro e w' ⟨rfl, rfl⟩
      clear hMul
      go_wp2
      go_roundw
      case rel => exact ⟨i + 1, _, d, by omega, by go_num, rfl, HST, hown2, hB2⟩
      case measure => simp [intOf]; omega
    · obtain rfl : i = m := by omega
      rw [HT2.out] at HO
      have hl := HO.out.len
      have hcz := hown.cell (j := off + i) (by omega)
      rw [sg_lb _ _ _ _ _ HPRE.out (by omega), HO.out.out _ (Nat.le_refl _), HT.out] at hcz
      have hf := hown.frozen (off + i)
      have hbo := HO.out.b1
      have htb := HT0.out
      rw [HT.out] at htb
      by_cases hab : t < bo
      · obtain ⟨x, hx⟩ : ∃ x, t + 18446744073709551616 - bo = x := ⟨_, rfl⟩
        have hxb : x < 18446744073709551616 := by omega
        obtain ⟨r1, r2⟩ := dg_over1 i (wal vs * q) s s' bo t x HO.out HT.out (by unfold BB; omega) hab
        have r5 := dg_lt i (wal vs * q) s s' bo t HO.out HT.out hab
        have hq0 : 1 ≤ q := by
          rcases Nat.eq_zero_or_pos q with h | h
          · rw [h, Nat.mul_zero] at r5; omega
          · exact h
        obtain ⟨qq, hqq⟩ : ∃ qq, q - 1 = qq := ⟨_, rfl⟩
        have hqe : q = qq + 1 := by omega
        have hqb : qq < 18446744073709551616 := by omega
        have HEND : Hid (∀ s2 c, AdI (i + 1) 0 (wal (s'.set i x) + wal vs) i s2 c → lb s2 i + c = BB ∧ qq * wal vs + wal (s2.set i 0) = wal s ∧ wal (s2.set i 0) < wal vs) := fun s2 c h => by
          rw [hqe] at r1 r5
          obtain ⟨a, b⟩ := dg_over2 i (wal vs * (qq + 1)) (wal vs) qq (wal s) (wal (s'.set i x)) s2 c r1 (by rw [Nat.mul_add, Nat.mul_one, Nat.mul_comm qq]) (by have := HQ2.out; rw [hqe, Nat.add_mul, Nat.one_mul] at this; omega) h
          exact ⟨a, dg_end2 (wal vs) qq (wal s) _ b r5⟩
        have hown2 := hown.set_ (off + i) x
        rw [sg_set _ _ _ _ _ _ HPRE.out (by omega)] at hown2
        have hB2 := hB.setCell (off + i) (.int .u64 (x : Nat))
        have HA0 : Hid (AdI (i + 1) 0 (wal (s'.set i x) + wal (vs.take 0)) 0 (s'.set i x) 0) := ⟨by rw [List.length_set]; exact hl, r2, Nat.zero_le _, by simp [wal]⟩
        have f1 : ((t : Int) - (bo : Int)) % 18446744073709551616 = (x : Int) := by omega
        have f2 : IntKind.u64.wrap ((t : Int) - (bo : Int)) = (x : Int) := by rw [IntKind.wrap_u64]; exact f1
        have f3 := u64_fit hxb
        have g1 : (q : Int) - 1 = (qq : Int) := by omega
        have g2 := u64_fit hqb
        have g3 := u64_mod hqb
        clear r1 r2 r5 hq0 hqe hown hB HO hl hbo htb hx hxb HD0
        go_wp2
        generalize hWW : wr.setCell ⟨g, off + i, none⟩ (.int .u64 (x : Nat)) = w2 at *
        clear hWW
        go_loopw [84, 16] (fun t7 s7 wx => ∃ (j : Nat) (s2 : List Nat) (cy : Nat), j ≤ i ∧ t7 = .int .i64 (j : Nat) ∧ s7 = .int .u64 (cy : Nat) ∧ Hid (AdI (i + 1) 0 (wal (s'.set i x) + wal (vs.take j)) j s2 cy) ∧ Ow wx base (.slice (some ⟨g, 0, none⟩) N c) (Sg pre s2 post) ∧ But g w wx) (fun t7 _ _ => i - (intOf t7).toNat)
        case atStart => exact ⟨0, _, 0, Nat.zero_le _, rfl, rfl, HA0, hown2, hB2⟩
        case round =>
          clear hown2 hB2 HA0
          obtain ⟨j, s2, cy, hj, rfl, rfl, HO, hown, hB⟩ := hrel
          have hl := HO.out.len
          have hcy := HO.out.cy1
          by_cases hlt : j < i
          · have hc0 := (hB.cell (p := av.add j) (by rw [addr_add_block]; exact hbv) (by rw [addr_add_block]; exact hgv)).trans (hcellv j hlt)
            have hy := HXV.out j
            have htk := HTK.out j hlt
            have hcz := hown.cell (j := off + j) (by omega)
            rw [sg_lb _ _ _ _ _ HPRE.out (by omega)] at hcz
            have hf := hown.frozen (off + j)
            have hx1 : lb s2 j < 18446744073709551616 := lb_lt_of (by decide) HO.out.lt _
            obtain ⟨y, hyy⟩ : ∃ y, lb vs j = y := ⟨_, rfl⟩
            rw [hyy] at hc0 hy htk
            obtain ⟨z, hzz⟩ : ∃ z, lb s2 j = z := ⟨_, rfl⟩
            obtain ⟨s3, hs3⟩ : ∃ s3, (z + y + cy) % 18446744073709551616 = s3 := ⟨_, rfl⟩
            obtain ⟨d, hd⟩ : ∃ d, (z + y + cy) / 18446744073709551616 = d := ⟨_, rfl⟩
            have hst := HO.out.step (by omega) y s3 d hy (by rw [Nat.zero_add, hzz]; exact hs3) (by rw [Nat.zero_add, hzz]; exact hd)
            rw [Nat.zero_add, Nat.add_assoc, ← htk] at hst
            have HST := Lib.hid hst
            rw [hzz] at hcz hx1
            have hown2 := hown.set_ (off + j) s3
            rw [sg_set _ _ _ _ _ _ HPRE.out (by omega)] at hown2
            have hB2 := hB.setCell (off + j) (.int .u64 (s3 : Nat))
            have hadd := run_addc z y cy s3 d hcy hs3 hd
            clear hst htk hyy hs3 hd hzz hown hB HO hy hx1 hcy hl
            go_wp2
            go_roundw
            case rel => exact ⟨j + 1, _, d, by omega, by go_num, rfl, HST, hown2, hB2⟩
            case measure => simp [intOf]; omega
          · obtain rfl : j = i := by omega
            rw [HT2.out] at HO
            obtain ⟨a1, a2, a3⟩ := HEND.out s2 cy HO.out
            have hcz := hown.cell (j := off + j) (by omega)
            rw [sg_lb _ _ _ _ _ HPRE.out (by omega)] at hcz
            have hf := hown.frozen (off + j)
            obtain ⟨z, hzz⟩ : ∃ z, lb s2 j = z := ⟨_, rfl⟩
            rw [hzz] at hcz a1
            have f1 : ((z : Int) + (cy : Int)) % 18446744073709551616 = 0 := by unfold BB at a1; omega
            have f2 : IntKind.u64.wrap ((z : Int) + (cy : Int)) = 0 := by rw [IntKind.wrap_u64]; exact f1
            have hown2 := hown.set_ (off + j) 0
            rw [sg_set _ _ _ _ _ _ HPRE.out (by omega)] at hown2
            have hB2 := hB.setCell (off + j) (.int .u64 (0 : Nat))
            have HFN : Hid (∃ q' s3, Ending.returned (.int .u64 (qq : Nat)) = .returned (.int .u64 (q' : Nat)) ∧ q' < 18446744073709551616 ∧ s3.length = j + 1 ∧ (∀ x ∈ s3, x < 18446744073709551616) ∧ q' * wal vs + wal s3 = wal s ∧ wal s3 < wal vs ∧
              Ow (wr.setCell ⟨g, off + j, none⟩ (.int .u64 0)) base (.slice (some ⟨g, 0, none⟩) N c) (Sg pre s3 post)) := ⟨qq, _, rfl, hqb, by rw [List.length_set]; exact hl, set_lt HO.out.lt (by decide), a2, a3, hown2⟩
            have hE : Hid (But g w (wr.setCell ⟨g, off + j, none⟩ (.int .u64 0))) := hB2
            clear a1 a2 a3 hown2 hown hB hB2 HO hl hcy hzz hq hqb HEND
            go_wp2
            go_ret
            exact ⟨HFN.out, hE.out⟩
      · obtain ⟨x, hx⟩ : ∃ x, t - bo = x := ⟨_, rfl⟩
        have hxb : x < 18446744073709551616 := by omega
        obtain ⟨r1, r2⟩ := dg_fit i (wal vs * q) s s' bo t x HO.out HT.out (by omega)
        obtain ⟨r3, r4⟩ := dg_end1 (wal vs) q (wal s) _ r1 HQ1.out
        have hown2 := hown.set_ (off + i) x
        rw [sg_set _ _ _ _ _ _ HPRE.out (by omega)] at hown2
        have hB2 := hB.setCell (off + i) (.int .u64 (x : Nat))
        have f1 : (t : Int) - (bo : Int) = (x : Int) := by omega
        have f2 := u64_fit hxb
        have f3 := u64_mod hxb
        have HFN : Hid (∃ q' s2, Ending.returned (.int .u64 (q : Nat)) = .returned (.int .u64 (q' : Nat)) ∧ q' < 18446744073709551616 ∧ s2.length = i + 1 ∧ (∀ x ∈ s2, x < 18446744073709551616) ∧ q' * wal vs + wal s2 = wal s ∧ wal s2 < wal vs ∧
          Ow (wr.setCell ⟨g, off + i, none⟩ (.int .u64 (x : Nat))) base (.slice (some ⟨g, 0, none⟩) N c) (Sg pre s2 post)) := ⟨q, _, rfl, hq, by rw [List.length_set]; exact hl, r2, r3, r4, hown2⟩
        have hE : Hid (But g w (wr.setCell ⟨g, off + i, none⟩ (.int .u64 (x : Nat)))) := hB2
        clear r1 r2 r3 r4 hown2 hown hB hB2 HO hl hbo htb hx hxb hq
        go_wp2
        go_ret
        exact ⟨HFN.out, hE.out⟩
end Go.Proofs.YtfkcdmbiihkiiaaGreatDoor
