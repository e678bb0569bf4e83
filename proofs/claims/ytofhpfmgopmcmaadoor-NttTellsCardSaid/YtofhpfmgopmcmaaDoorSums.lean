/- Proved: the statement NttSums: whatever rows of at most 300 limbs: the sums of products have at any number the product of both rows' values; there are as many as both have, less 1; the other way round they are the same. No condition. -/
import Derived.Test.YtofhpfmgopmcmaaDoorN3
import Derived.Test.YtofhpfmgopmcmaaDoorFr
namespace Go.Proofs.YtofhpfmgopmcmaaDoor
open Go.RowKit
set_option linter.unusedVariables false
set_option maxHeartbeats 400000

theorem cvs_lt (a b : List Nat) (ha : ∀ x ∈ a, x < 4294967296) (hb : ∀ x ∈ b, x < 4294967296) (hl : a.length ≤ 300) : ∀ x ∈ cvs a b, x < 79228162514264337593543950336 := by
  intro x hx
  unfold cvs at hx
  split at hx
  · cases hx
  · obtain ⟨m, _, rfl⟩ := List.mem_map.1 hx
    have h1 := cv_le a b ha hb a.length m
    have h2 := Nat.mul_le_mul_right 18446744065119617025 hl
    omega

theorem limbs300 (w : World) (v : Value) (xs : List Nat) (hu : U w v xs) :
    Calls Tryd.prog 13 #[v, .int .i64 300] w fun e w' => ∃ u, e = .returned u ∧ U w' u (xs.take 300) ∧ Ext w w' := limbs_B w v xs 300 (by omega) hu

theorem conv_N (W : World) (hg : Gl W) (A A2 : Option Addr) (na nb ca cb : Nat) (a b cs : List Nat) (n : Nat) (h1 : U W (.slice A na ca) a) (h2 : U W (.slice A2 nb cb) b) (hna : na ≤ 30000) (hnb : nb ≤ 30000) (hc : cvs a b = cs) (hn : cs.length = n) :
    Calls Tryd.prog 19 #[.slice A na ca, .slice A2 nb cb] W fun e w' => ∃ A3 c3, e = .returned (.slice A3 n c3) ∧ U3 w' (.slice A3 n c3) cs ∧ Ext W w' := by
  have e1 : a.length = na := by obtain ⟨_, _, e, _⟩ := h1; injection e with _ e _; exact e.symm
  have e2 : b.length = nb := by obtain ⟨_, _, e, _⟩ := h2; injection e with _ e _; exact e.symm
  refine (conv_all W hg _ _ a b h1 h2 (by omega) (by omega) cs hc).mono ?_
  rintro e w' ⟨z, rfl, hz, hB⟩
  obtain ⟨A3, c3, e3, _⟩ := id hz
  rw [hn] at e3
  subst e3
  exact ⟨A3, c3, rfl, hz, hB⟩
theorem limbs_N (w : World) (v : Value) (xs a : List Nat) (n : Nat) (ha : xs.take 300 = a) (hn : a.length = n) (hu : U w v xs) :
    Calls Tryd.prog 13 #[v, .int .i64 300] w fun e w' => ∃ A c, e = .returned (.slice A n c) ∧ U w' (.slice A n c) a ∧ Ext w w' := by
  refine (limbs300 w v xs hu).mono ?_
  rintro e w' ⟨u, rfl, hz, hB⟩
  rw [ha] at hz
  obtain ⟨A3, c3, e3, _⟩ := id hz
  rw [hn] at e3
  subst e3
  exact ⟨A3, c3, rfl, hz, hB⟩

set_option maxRecDepth 100000 in
set_option maxHeartbeats 4000000 in
theorem NttSums_walk (w : World) (hg : Gl w) (va : Value) (xa : List Nat) (hua : U w va xa) (vb : Value) (xb : List Nat) (hub : U w vb xb) (x : Nat) (hx : x < 4294967296) :
    Calls Tryd.prog 10 #[va, vb, .int .u32 (x : Nat)] w fun e w' => e = .returned (.bool true) ∧ Ext w w' := by
  have HB := Ext.refl w
  obtain ⟨a, ha⟩ : ∃ a, xa.take 300 = a := ⟨_, rfl⟩
  obtain ⟨b, hb⟩ : ∃ b, xb.take 300 = b := ⟨_, rfl⟩
  obtain ⟨na, hna⟩ : ∃ na, a.length = na := ⟨_, rfl⟩
  obtain ⟨nb, hnb⟩ : ∃ nb, b.length = nb := ⟨_, rfl⟩
  have hla : na ≤ 300 := by rw [← hna, ← ha, List.length_take]; exact Nat.min_le_left _ _
  have hlb : nb ≤ 300 := by rw [← hnb, ← hb, List.length_take]; exact Nat.min_le_left _ _
  have hLa := Lib.hid (fun W h => limbs_N W va xa a na ha hna h)
  have hLb := Lib.hid (fun W h => limbs_N W vb xb b nb hb hnb h)
  have hxa : ∀ x ∈ a, x < 4294967296 := fun x h => hua.lim x (by rw [← ha] at h; exact List.mem_of_mem_take h)
  have hxb : ∀ x ∈ b, x < 4294967296 := fun x h => hub.lim x (by rw [← hb] at h; exact List.mem_of_mem_take h)
  obtain ⟨cs, hcs⟩ : ∃ cs, cvs a b = cs := ⟨_, rfl⟩
  have hcl := cvs_lt a b hxa hxb (by omega)
  rw [hcs] at hcl
  by_cases hc : na = 0 ∨ nb = 0
  · have hcn : cs.length = 0 := by rw [← hcs, cvs_nil a b (by omega)]; rfl
    have hCv := Lib.hid (fun W hg A A2 ca cb h1 h2 => conv_N W hg A A2 na nb ca cb a b cs 0 h1 h2 (by omega) (by omega) hcs hcn)
    clear hxa hxb hcl hcs hcn ha hb hna hnb
    go_enter Tryd.func10, Tryd.ntmps10
    go_wp2_with (fail)
    refine (head_calls _ hg).mono ?_
    rintro e w1 ⟨rfl, hB⟩
    replace HB := HB.below hB
    replace hg := hg.ext hB
    replace hua := hua.below hB
    replace hub := hub.below hB
    clear hB
    go_wp2_with (fail)
    refine (hLa.out _ hua).mono ?_
    rintro e w2 ⟨A, ca, rfl, hu1, hB⟩
    replace HB := HB.below hB
    replace hg := hg.ext hB
    replace hub := hub.below hB
    clear hB hua
    go_wp2_with (fail)
    refine (hLb.out _ hub).mono ?_
    rintro e w3 ⟨A2, cb, rfl, hu2, hB⟩
    replace HB := HB.below hB
    replace hg := hg.ext hB
    replace hu1 := hu1.below hB
    clear hB hub
    go_wp2_with (fail)
    refine (hCv.out _ hg _ _ _ _ hu1 hu2).mono ?_
    rintro e w4 ⟨A3, c3, rfl, hz1, hB⟩
    replace HB := HB.below hB
    clear hB hu1 hu2 hz1 hg hLa hLb hCv
    by_cases h0 : na = 0
    · subst h0
      go_wp2
      go_ret
      exact ⟨rfl, HB⟩
    · have hb0 : nb = 0 := by omega
      subst hb0
      have hz : (((na : Nat) : Int) == 0) = false := by rw [beq_eq_false_iff_ne]; omega
      clear hc
      go_wp2
      go_ret
      exact ⟨rfl, HB⟩
  · have ha0 : 0 < a.length := by omega
    have hb0 : 0 < b.length := by omega
    obtain ⟨n, hn⟩ : ∃ n, na + nb - 1 = n := ⟨_, rfl⟩
    have hlen : cs.length = n := by rw [← hcs, cvs_pos a b ha0 hb0, conv_len]; omega
    have hCv := Lib.hid (fun W hg A A2 ca cb h1 h2 => conv_N W hg A A2 na nb ca cb a b cs n h1 h2 (by omega) (by omega) hcs hlen)
    have hCv2 := Lib.hid (fun W hg A A2 ca cb h1 h2 => conv_N W hg A A2 nb na ca cb b a cs n h1 h2 (by omega) (by omega) (by rw [cvs_comm, hcs]) hlen)
    obtain ⟨y, hy⟩ : ∃ y, x % 4294967291 = y := ⟨_, rfl⟩
    obtain ⟨d1, d2, d3, d4⟩ := dig1 x y (Nat.lt_trans hx (by decide)) hy
    obtain ⟨ra, hra⟩ : ∃ ra, hv a y 4294967291 a.length 0 = ra := ⟨_, rfl⟩
    obtain ⟨rb, hrb⟩ : ∃ rb, hv b y 4294967291 b.length 0 = rb := ⟨_, rfl⟩
    obtain ⟨r, hr⟩ : ∃ r, hv cs y 4294967291 cs.length 0 = r := ⟨_, rfl⟩
    have hrr : ra * rb % 4294967291 = r := by rw [← hr, ← hra, ← hrb, ← hcs, cvs_pos a b ha0 hb0, value_mul a b y 4294967291 ha0 hb0]
    have hab : ra < 4294967291 := by rw [← hra]; exact hv_lt _ _ _ _ _ (by decide)
    have hbb : rb < 4294967291 := by rw [← hrb]; exact hv_lt _ _ _ _ _ (by decide)
    obtain ⟨z, hz⟩ : ∃ z, ra * rb = z := ⟨_, rfl⟩
    rw [hz] at hrr
    have hzi : (ra : Int) * (rb : Int) = (z : Int) := by rw [← hz, Int.natCast_mul]
    have hz64 : z ≤ 4294967291 * 4294967291 := by rw [← hz]; exact Nat.mul_le_mul (Nat.le_of_lt hab) (Nat.le_of_lt hbb)
    obtain ⟨g1, g2, g3, g4⟩ := dig1 z r (Nat.lt_of_le_of_lt hz64 (by decide)) hrr
    have hAt := Lib.hid (fun W v h => at_B W v cs y h hcl d4 r hr)
    have hVa := Lib.hid (fun W v h => value_B W v a y 4294967291 h (by decide) (by decide) d4 ra hra)
    have hVb := Lib.hid (fun W v h => value_B W v b y 4294967291 h (by decide) (by decide) d4 rb hrb)
    have hSm := Lib.hid (fun W zz z1 h1 h2 => sums_B W zz z1 cs cs h1 h2 hcl hcl true (decide_eq_true rfl))
    have hyw : IntKind.u64.wrap (y : Int) = (y : Int) := by rw [IntKind.wrap_u64]; omega
    have hrw : IntKind.u64.wrap (r : Int) = (r : Int) := by rw [IntKind.wrap_u64]; omega
    have hnn : (na : Int) + (nb : Int) - 1 = (n : Int) := by omega
    have hnz : (((na : Nat) : Int) == 0) = false := by rw [beq_eq_false_iff_ne]; omega
    have hnz2 : (((nb : Nat) : Int) == 0) = false := by rw [beq_eq_false_iff_ne]; omega
    have hn600 : n ≤ 600 := by omega
    clear hcs hra hrb hr hz hrr hy hcl hlen hn hc hxa hxb ha hb hna hnb ha0 hb0
    go_enter Tryd.func10, Tryd.ntmps10
    go_wp2_with (fail)
    refine (head_calls _ hg).mono ?_
    rintro e w1 ⟨rfl, hB⟩
    replace HB := HB.below hB
    replace hg := hg.ext hB
    replace hua := hua.below hB
    replace hub := hub.below hB
    clear hB
    go_wp2_with (fail)
    refine (hLa.out _ hua).mono ?_
    rintro e w2 ⟨A, ca, rfl, hu1, hB⟩
    replace HB := HB.below hB
    replace hg := hg.ext hB
    replace hub := hub.below hB
    clear hB hua
    go_wp2_with (fail)
    refine (hLb.out _ hub).mono ?_
    rintro e w3 ⟨A2, cb, rfl, hu2, hB⟩
    replace HB := HB.below hB
    replace hg := hg.ext hB
    replace hu1 := hu1.below hB
    clear hB hub
    go_wp2_with (fail)
    refine (hCv.out _ hg _ _ _ _ hu1 hu2).mono ?_
    rintro e w4 ⟨A3, c3, rfl, hz1, hB⟩
    replace HB := HB.below hB
    replace hg := hg.ext hB
    replace hu1 := hu1.below hB
    replace hu2 := hu2.below hB
    clear hB
    go_wp2_with (fail)
    refine (hAt.out _ _ hz1).mono ?_
    rintro e w5 ⟨rfl, hB⟩
    replace HB := HB.below hB
    replace hg := hg.ext hB
    replace hu1 := hu1.below hB
    replace hu2 := hu2.below hB
    replace hz1 := hz1.below hB
    clear hB
    go_wp2_with (fail)
    refine (hVa.out _ _ hu1).mono ?_
    rintro e w6 ⟨rfl, hB⟩
    replace HB := HB.below hB
    replace hg := hg.ext hB
    replace hu1 := hu1.below hB
    replace hu2 := hu2.below hB
    replace hz1 := hz1.below hB
    clear hB
    go_wp2_with (fail)
    refine (hVb.out _ _ hu2).mono ?_
    rintro e w7 ⟨rfl, hB⟩
    replace HB := HB.below hB
    replace hg := hg.ext hB
    replace hu1 := hu1.below hB
    replace hu2 := hu2.below hB
    replace hz1 := hz1.below hB
    clear hB
    go_wp2_with (fail)
    refine (hCv2.out _ hg _ _ _ _ hu2 hu1).mono ?_
    rintro e w8 ⟨A4, c4, rfl, hz2, hB⟩
    replace HB := HB.below hB
    replace hz1 := hz1.below hB
    clear hB hu1 hu2 hg
    go_wp2_with (fail)
    refine (hSm.out _ _ _ hz2 hz1).mono ?_
    rintro e w9 ⟨rfl, hB⟩
    replace HB := HB.below hB
    clear hB
    go_wp2
    go_ret
    exact ⟨rfl, HB⟩
end Go.Proofs.YtofhpfmgopmcmaaDoor
