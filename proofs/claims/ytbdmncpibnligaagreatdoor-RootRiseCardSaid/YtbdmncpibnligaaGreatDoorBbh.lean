/- Laws of its own; the head. -/
import Derived.Test.YtbdmncpibnligaaGreatDoorBbg
import Derived.Test.YtbdmncpibnligaaGreatDoorBbe

namespace Go.Proofs.YtbdmncpibnligaaGreatDoor
open Go.RowKit 
set_option linter.unusedVariables false
set_option linter.unusedSimpArgs false
set_option maxRecDepth 100000
set_option maxHeartbeats 4000000
theorem Pl.r_eqb {P : Program} {T : TypeId} {x y : Operand} {a b c : Bool} (hT : P.underlying T = some .bool) (h : (a == b) = c) (X : World) : Pl.Bn P .eql T x y (.bool a) (.bool b) X = .ok (.bool c) X := by
  subst h
  simp [Pl.Bn, eqGuard, binOp, run_equal_bool _ _ _ _ hT]
theorem Un.lits {w : World} {N : Nat} {T : TypeId} {xs : List Nat} {n : Nat} (h : Pl.Cb w N T (L32 xs)) (hx : ∀ x ∈ xs, x < 4294967296) (hl : xs ≠ [] → xs[xs.length - 1]?.getD 0 ≠ 0) (hv : val xs = n) (hlen : xs.length ≤ 9223372036854775807 := by decide) : Un w (.slice (some ⟨N, 0, none⟩) xs.length xs.length) n := by
  rw [Un, ← hv, limbs_val xs hx hl]
  exact ⟨_, _, rfl, ⟨Nat.le_refl _, hlen⟩, hx, fun _ => ⟨_, rfl, h.lt, fun j hj => by
    rw [addr_zero_add]
    exact h.at (L32_get xs hj)⟩⟩
theorem root_N (w : World) (va : Value) (a : Nat) (ha : Un w va a) (la : Sn a 300) (k : Nat) (hk : 1 ≤ k) (hk2 : k ≤ 1000000) (hsz : ∀ j : Nat, (k : Int) = (j : Int) → j < blen a → blen a + 3 * j ≤ 12000) :
    Calls Tryz.prog 14 #[va, .int .i64 ((k : Nat) : Int)] w fun e w' => ∃ u, e = .returned (.tuple #[u, .int .i64 0]) ∧ Un w' u (Rt.kr a k) ∧ Pl.Ex w w' := by
  refine (root_calls w va a ha la (k : Int) hsz).mono ?_
  rintro e w' ⟨⟨h, rfl⟩ | ⟨j, u, h, h1, h2, rfl, hu⟩, hE⟩
  · omega
  · obtain rfl : k = j := by omega
    exact ⟨u, rfl, hu, hE⟩
theorem root_bad (w : World) (va : Value) (a : Nat) (ha : Un w va a) (la : Sn a 300) (z : Int) (hz : z < 1 ∨ 1000000 < z) (hsz : ∀ j : Nat, z = (j : Int) → j < blen a → blen a + 3 * j ≤ 12000) :
    Calls Tryz.prog 14 #[va, .int .i64 z] w fun e w' => e = .returned (.tuple #[.slice none 0 0, .int .i64 1]) ∧ Pl.Ex w w' := by
  refine (root_calls w va a ha la z hsz).mono ?_
  rintro e w' ⟨⟨h, rfl⟩ | ⟨j, u, h, h1, h2, rfl, hu⟩, hE⟩
  · exact ⟨rfl, hE⟩
  · omega
theorem rroot_bad (w : World) (va : Value) (a : Nat) (ha : Un w va a) (la : Sn a 300) (z : Int) (hz : z < 1 ∨ 1000000 < z) (hsz : ∀ j : Nat, z = (j : Int) → j < blen a → blen a + 3 * j ≤ 12000) :
    Calls Tryz.prog 15 #[va, .int .i64 z] w fun e w' => e = .returned (.tuple #[.slice none 0 0, .int .i64 1]) ∧ Pl.Ex w w' := by
  refine (rroot_calls w va a ha la z).mono ?_
  rintro e w' ⟨⟨h, rfl⟩ | ⟨j, u, h, h1, h2, rfl, hu⟩, hE⟩
  · exact ⟨rfl, hE⟩
  · omega
theorem prim_small {b : Nat} (hb : b < 16) (h : ∀ d, d < 4 → ∀ m, m < 4 → 2 ≤ m → d ^ m ≠ b) (h1 : 1 < b) : Rt.Prim b := fun d m e => by
  rcases Nat.lt_or_ge m 2 with hm | hm
  · have : m = 0 ∨ m = 1 := by omega
    rcases this with rfl | rfl
    · rw [Nat.pow_zero] at e; exact .inr e
    · exact .inl rfl
  · exfalso
    have hd : d < 4 := Nat.lt_of_not_le fun h4 => by
      have h5 := Nat.pow_le_pow_left h4 m
      have h6 := Nat.pow_le_pow_right (n := 4) (by decide) hm
      omega
    have hd2 : 2 ≤ d := Nat.le_of_not_lt fun h4 => by
      have : d = 0 ∨ d = 1 := by omega
      rcases this with rfl | rfl
      · rw [Nat.zero_pow (by omega)] at e; omega
      · rw [Nat.one_pow] at e; omega
    have hm4 : m < 4 := Nat.lt_of_not_le fun h4 => by
      have h5 := Nat.pow_le_pow_left hd2 m
      have h6 := Nat.pow_le_pow_right (n := 2) (by decide) h4
      omega
    exact h d hd m hm4 hm e.symm
theorem prim2 : Rt.Prim 2 := prim_small (by decide) (by decide) (by decide)
theorem prim12 : Rt.Prim 12 := prim_small (by decide) (by decide) (by decide)
def Pwr (a b k : Nat) : Prop := a ≤ 1 ∧ b = a ∧ k = 1 ∨ 1 < a ∧ b ^ k = a ∧ Rt.Prim b ∧ 1 ≤ k
theorem pw_gt {a b k : Nat} (h : 1 < a) (e : b ^ k = a) : 1 < b := Nat.lt_of_not_le fun h1 => by
  have := Nat.pow_le_pow_left h1 k
  rw [Nat.one_pow, e] at this
  omega
theorem pw_le {a b k : Nat} (h : Pwr a b k) : b ≤ a := by
  rcases h with ⟨_, rfl, _⟩ | ⟨_, rfl, _, h⟩
  · exact Nat.le_refl _
  · exact Rt.self_pow b (by omega)
theorem pw_k {a b k : Nat} (h : Pwr a b k) : 1 ≤ k ∧ k ≤ blen a + 1 := by
  rcases h with ⟨_, _, rfl⟩ | ⟨h0, rfl, _, h⟩
  · exact ⟨Nat.le_refl _, by omega⟩
  · refine ⟨h, ?_⟩
    have h1 : 2 ^ k ≤ b ^ k := Nat.pow_le_pow_left (pw_gt h0 rfl) k
    have := (Nat.pow_lt_pow_iff_right (a := 2) (by decide)).1 (Nat.lt_of_le_of_lt h1 (lt_pow_blen _))
    omega
theorem pw_uniq {a b k c m : Nat} (h : Pwr a b k) (g : Pwr a c m) : b = c ∧ k = m := by
  rcases h with ⟨h0, rfl, rfl⟩ | ⟨h0, h1, h2, h3⟩
  · rcases g with ⟨g0, rfl, rfl⟩ | ⟨g0, _⟩
    · exact ⟨rfl, rfl⟩
    · omega
  · rcases g with ⟨g0, _⟩ | ⟨g0, g1, g2, g3⟩
    · omega
    · exact Rt.prim_uniq h2 (pw_gt h0 h1) g2 (pw_gt g0 g1) (by omega) (by omega) (h1.trans g1.symm)
theorem power_is (a c j : Nat) (la : Sn a 300) (hb : blen a ≤ 660) (hp : Pwr a c j) (w : World) (va : Value) (ha : Un w va a) :
    Calls Tryz.prog 18 #[va] w fun e w' => ∃ u, e = .returned (.tuple #[u, .int .i64 ((j : Nat) : Int)]) ∧ Un w' u c ∧ Pl.Ex w w' := by
  refine (power_all w va a ha la hb).mono ?_
  rintro e w' ⟨u, b, k, rfl, hu, hq, hE⟩
  obtain ⟨rfl, rfl⟩ := pw_uniq hq hp
  exact ⟨u, rfl, hu, hE⟩
theorem lpower_Y (w : World) (va : Value) (a : Nat) (ha : Un w va a) (la : Sn a 300) (k : Nat) (hk : k ≤ 1000) (hf : blen a * k ≤ 6400) :
    Calls Tryz.prog 24 #[va, .int .i64 ((k : Nat) : Int)] w fun e w' => ∃ u, e = .returned (.tuple #[u, .bool true]) ∧ Un w' u (a ^ k) ∧ Pl.Ex w w' := by
  refine (lpower_calls w va a ha la k hk).mono ?_
  rintro e w' ⟨u, b, rfl, ⟨rfl, h, hu⟩ | ⟨rfl, h⟩, hE⟩
  · exact ⟨u, rfl, hu, hE⟩
  · omega
theorem lpower_N (w : World) (va : Value) (a : Nat) (ha : Un w va a) (la : Sn a 300) (k : Nat) (hk : k ≤ 1000) (hf : ¬ blen a * k ≤ 6400) :
    Calls Tryz.prog 24 #[va, .int .i64 ((k : Nat) : Int)] w fun e w' => ∃ u, e = .returned (.tuple #[u, .bool false]) ∧ Pl.Ex w w' := by
  refine (lpower_calls w va a ha la k hk).mono ?_
  rintro e w' ⟨u, b, rfl, ⟨rfl, h, hu⟩ | ⟨rfl, h⟩, hE⟩
  · omega
  · exact ⟨u, rfl, hE⟩
theorem pow_sn201 {a k : Nat} (h : blen a * k ≤ 6400) : Sn (a ^ k) 201 := by
  rcases Nat.eq_zero_or_pos k with rfl | h0
  · rw [Nat.pow_zero]; exact Sn.of (by decide)
  · refine Sn.bits (b := blen a * k) ?_ (by omega)
    rw [Nat.pow_mul]
    exact Nat.pow_lt_pow_left (lt_pow_blen a) (by omega)
theorem big_isP : Rt.isP 18446744073709551616 64 := (Rt.isP_iff (by decide)).2 ⟨2, by decide +kernel⟩
theorem big_not : ¬ Rt.isP 18446744073709551616 3 := fun h => by
  have := (Rt.prim_isP prim2 (by decide) (k := 64) (m := 3) (by decide) (by decide)).1 h
  omega
theorem kr_bigG {a k t : Nat} (h0 : a ≠ 0) (h : a < 2 ^ t) (ht : t ≤ k) : Rt.kr a k = 1 := Rt.kr_big h0 (Nat.lt_of_lt_of_le h (Nat.pow_le_pow_right (by decide) ht))
theorem kr_lits : Rt.kr 26 3 = 2 ∧ Rt.kr 27 3 = 3 ∧ Rt.kr 18446744073709551615 2 = 4294967295 ∧ Rt.kr 21474836480 1000000 = 1 ∧ Rt.kr 0 2 = 0 ∧ Rt.kr 0 7 = 0 :=
  ⟨Rt.kr_eq (by decide) (by decide) (by decide), Rt.kr_eq (by decide) (by decide) (by decide), Rt.kr_eq (by decide) (by decide +kernel) (by decide +kernel), kr_bigG (t := 64) (by decide) (by decide +kernel) (by decide), Rt.kr_zero (by decide), Rt.kr_zero (by decide)⟩
theorem rest_lit : 18446744073709551615 - Rt.kr 18446744073709551615 2 * Rt.kr 18446744073709551615 2 = 8589934590 := by rw [kr_lits.2.2.1]
theorem head8 (w : World)  :
    Calls Tryz.prog 12 #[] w fun e w' => e = .returned (.bool true) ∧ Pl.Ex w w' := by
  refine Pl.calls_by (n := 188) (vs := []) Tryz.func12 rfl (by kernel_rfl) (by simp) ?_
  repeat refine Pl.V_seq ?_
  refine Pl.V_region (by kernel_rfl) ?_
  refine Pl.qA_go trivial rfl ?_
  refine Pl.pA_end ?_
  repeat refine Pl.V_seq ?_
  refine Pl.V_region (by kernel_rfl) ?_
  refine Pl.qA_bs (e := 36) (n := 1) [.int .u32 26] rfl rfl rfl rfl (by kernel_rfl) (fun Y hY => trivial) ?_
  intro N1 w1 hE1 hN_N1 k_N1_0
  have z_N1 := Pl.Cb.lt k_N1_0
  have sz1 := Pl.Ex.size hE1
  have hl2 := Un.one (x := 26) k_N1_0 rfl (by omega)
  have hbz3 : blen 26 ≤ 32 * 1 := Sn.blen (Sn.of (K := 1) (by omega))
  refine Pl.pA_call rfl rfl rfl rfl rfl (fun u X => Pl.enters Tryz.func14 (by kernel_rfl) rfl u X) ?_
  refine Calls.mono (root_N _ _ 26 hl2 (Sn.le (Sn.of (K := 1) (by omega)) (by decide)) 3 (by decide) (by decide) (fun j hj hlt => by omega)) ?_
  rintro e w2 ⟨v4, rfl, hv4, hE2⟩
  have sz2 := Pl.Ex.size hE2
  replace hv4 := Un.as hv4 kr_lits.1
  refine ⟨_, rfl, trivial, ?_⟩
  refine Pl.qA_go trivial rfl ?_
  refine Pl.pA_end ?_
  repeat refine Pl.V_seq ?_
  refine Pl.V_region (by kernel_rfl) ?_
  refine Pl.qA_bs (e := 36) (n := 2) [.int .u32 4294967295, .int .u32 4294967295] rfl rfl rfl rfl (by kernel_rfl) (fun Y hY => trivial) ?_
  intro N5 w3 hE3 hN_N5 k_N5_0
  have z_N5 := Pl.Cb.lt k_N5_0
  have sz3 := Pl.Ex.size hE3
  have hl6 := Un.lits (xs := [4294967295, 4294967295]) (n := 18446744073709551615) k_N5_0 (by decide) (by decide) (by decide)
  refine Pl.pA_call rfl rfl rfl rfl rfl (fun u X => Pl.enters Tryz.func16 (by kernel_rfl) rfl u X) ?_
  refine Calls.mono (sqrt_calls 18446744073709551615 _ _ hl6 (Sn.le (Sn.bits (b := 64) (by decide) (by decide) : Sn 18446744073709551615 2) (by decide))) ?_
  rintro e w4 ⟨v7, v8, rfl, hv7, hv8, hE4⟩
  have sz4 := Pl.Ex.size hE4
  replace hv7 := Un.as hv7 kr_lits.2.2.1
  replace hv8 := Un.as hv8 rest_lit
  refine ⟨_, rfl, trivial, ?_⟩
  refine Pl.qA_go trivial rfl ?_
  refine Pl.pA_end ?_
  repeat refine Pl.V_seq ?_
  refine Pl.V_region (by kernel_rfl) ?_
  refine Pl.qA_bs (e := 36) (n := 1) [.int .u32 64] rfl rfl rfl rfl (by kernel_rfl) (fun Y hY => trivial) ?_
  intro N9 w5 hE5 hN_N9 k_N9_0
  have z_N9 := Pl.Cb.lt k_N9_0
  have sz5 := Pl.Ex.size hE5
  have hl10 := Un.one (x := 64) k_N9_0 rfl (by omega)
  refine Pl.pA_call rfl rfl rfl rfl rfl (fun u X => Pl.enters Tryz.func18 (by kernel_rfl) rfl u X) ?_
  refine Calls.mono (power_is 64 2 6 (Sn.one (by decide) (by decide)) (Nat.le_trans (blen_le_of_lt (k := 7) (by decide)) (by decide)) (.inr ⟨by decide, by decide, prim2, by decide⟩) _ _ hl10) ?_
  rintro e w6 ⟨v11, rfl, hv11, hE6⟩
  have sz6 := Pl.Ex.size hE6
  refine ⟨_, rfl, trivial, ?_⟩
  refine Pl.qA_go trivial rfl ?_
  refine Pl.pA_end ?_
  repeat refine Pl.V_seq ?_
  refine Pl.V_region (by kernel_rfl) ?_
  refine Pl.qA_bs (e := 36) (n := 1) [.int .u32 12] rfl rfl rfl rfl (by kernel_rfl) (fun Y hY => trivial) ?_
  intro N12 w7 hE7 hN_N12 k_N12_0
  have z_N12 := Pl.Cb.lt k_N12_0
  have sz7 := Pl.Ex.size hE7
  have hl13 := Un.one (x := 12) k_N12_0 rfl (by omega)
  refine Pl.pA_call rfl rfl rfl rfl rfl (fun u X => Pl.enters Tryz.func18 (by kernel_rfl) rfl u X) ?_
  refine Calls.mono (power_is 12 12 1 (Sn.one (by decide) (by decide)) (Nat.le_trans (blen_le_of_lt (k := 4) (by decide)) (by decide)) (.inr ⟨by decide, by decide, prim12, by decide⟩) _ _ hl13) ?_
  rintro e w8 ⟨v14, rfl, hv14, hE8⟩
  have sz8 := Pl.Ex.size hE8
  refine ⟨_, rfl, trivial, ?_⟩
  refine Pl.qA_go trivial rfl ?_
  refine Pl.pA_end ?_
  repeat refine Pl.V_seq ?_
  refine Pl.V_region (by kernel_rfl) ?_
  refine Pl.pA_call rfl rfl rfl rfl rfl (fun u X => Pl.enters Tryz.func18 (by kernel_rfl) rfl u X) ?_
  refine Calls.mono (power_is 0 0 1 Sn.zero (Nat.le_trans (blen_le_of_lt (k := 0) (by decide)) (by decide)) (.inl ⟨by decide, rfl, rfl⟩) _ _ (Un_nil _)) ?_
  rintro e w9 ⟨v15, rfl, hv15, hE9⟩
  have sz9 := Pl.Ex.size hE9
  refine ⟨_, rfl, trivial, ?_⟩
  refine Pl.qA_go trivial rfl ?_
  refine Pl.pA_end ?_
  repeat refine Pl.V_seq ?_
  refine Pl.V_region (by kernel_rfl) ?_
  refine Pl.qA_bs (e := 36) (n := 1) [.int .u32 27] rfl rfl rfl rfl (by kernel_rfl) (fun Y hY => trivial) ?_
  intro N16 w10 hE10 hN_N16 k_N16_0
  have z_N16 := Pl.Cb.lt k_N16_0
  have sz10 := Pl.Ex.size hE10
  have hl17 := Un.one (x := 27) k_N16_0 rfl (by omega)
  have hbz18 : blen 27 ≤ 32 * 1 := Sn.blen (Sn.of (K := 1) (by omega))
  refine Pl.pA_call rfl rfl rfl rfl rfl (fun u X => Pl.enters Tryz.func14 (by kernel_rfl) rfl u X) ?_
  refine Calls.mono (root_N _ _ 27 hl17 (Sn.le (Sn.of (K := 1) (by omega)) (by decide)) 3 (by decide) (by decide) (fun j hj hlt => by omega)) ?_
  rintro e w11 ⟨v19, rfl, hv19, hE11⟩
  have sz11 := Pl.Ex.size hE11
  replace hv19 := Un.as hv19 kr_lits.2.1
  refine ⟨_, rfl, trivial, ?_⟩
  refine Pl.qA_go trivial rfl ?_
  refine Pl.pA_end ?_
  repeat refine Pl.V_seq ?_
  refine Pl.V_region (by kernel_rfl) ?_
  refine Pl.qA_bs (e := 36) (n := 1) [.int .u32 1] rfl rfl rfl rfl (by kernel_rfl) (fun Y hY => trivial) ?_
  intro N20 w12 hE12 hN_N20 k_N20_0
  have z_N20 := Pl.Cb.lt k_N20_0
  have sz12 := Pl.Ex.size hE12
  have hl21 := Un.one (x := 1) k_N20_0 rfl (by omega)
  have hbz22 : blen 1 ≤ 32 * 1 := Sn.blen (Sn.of (K := 1) (by omega))
  refine Pl.pA_call rfl rfl rfl rfl rfl (fun u X => Pl.enters Tryz.func14 (by kernel_rfl) rfl u X) ?_
  refine Calls.mono (root_bad _ _ 1 hl21 (Sn.le (Sn.of (K := 1) (by omega)) (by decide)) 0 (by decide) (fun j hj hlt => by omega)) ?_
  rintro e w13 ⟨rfl, hE13⟩
  have sz13 := Pl.Ex.size hE13
  refine ⟨_, rfl, trivial, ?_⟩
  refine Pl.qA_go trivial rfl ?_
  refine Pl.pA_end ?_
  repeat refine Pl.V_seq ?_
  refine Pl.V_region (by kernel_rfl) ?_
  refine Pl.qA_bs (e := 36) (n := 1) [.int .u32 1] rfl rfl rfl rfl (by kernel_rfl) (fun Y hY => trivial) ?_
  intro N23 w14 hE14 hN_N23 k_N23_0
  have z_N23 := Pl.Cb.lt k_N23_0
  have sz14 := Pl.Ex.size hE14
  have hl24 := Un.one (x := 1) k_N23_0 rfl (by omega)
  have hbz25 : blen 1 ≤ 32 * 1 := Sn.blen (Sn.of (K := 1) (by omega))
  refine Pl.pA_call rfl rfl rfl rfl rfl (fun u X => Pl.enters Tryz.func14 (by kernel_rfl) rfl u X) ?_
  refine Calls.mono (root_bad _ _ 1 hl24 (Sn.le (Sn.of (K := 1) (by omega)) (by decide)) 1000001 (by decide) (fun j hj hlt => by omega)) ?_
  rintro e w15 ⟨rfl, hE15⟩
  have sz15 := Pl.Ex.size hE15
  refine ⟨_, rfl, trivial, ?_⟩
  refine Pl.qA_go trivial rfl ?_
  refine Pl.pA_end ?_
  repeat refine Pl.V_seq ?_
  refine Pl.V_region (by kernel_rfl) ?_
  refine Pl.qA_bs (e := 36) (n := 2) [.int .u32 0, .int .u32 5] rfl rfl rfl rfl (by kernel_rfl) (fun Y hY => trivial) ?_
  intro N26 w16 hE16 hN_N26 k_N26_0
  have z_N26 := Pl.Cb.lt k_N26_0
  have sz16 := Pl.Ex.size hE16
  have hl27 := Un.lits (xs := [0, 5]) (n := 21474836480) k_N26_0 (by decide) (by decide) (by decide)
  have hbz28 : blen 21474836480 ≤ 32 * 2 := Sn.blen (Sn.bits (b := 64) (by decide) (by decide) : Sn 21474836480 2)
  refine Pl.pA_call rfl rfl rfl rfl rfl (fun u X => Pl.enters Tryz.func14 (by kernel_rfl) rfl u X) ?_
  refine Calls.mono (root_N _ _ 21474836480 hl27 (Sn.le (Sn.bits (b := 64) (by decide) (by decide) : Sn 21474836480 2) (by decide)) 1000000 (by decide) (by decide) (fun j hj hlt => by omega)) ?_
  rintro e w17 ⟨v29, rfl, hv29, hE17⟩
  have sz17 := Pl.Ex.size hE17
  replace hv29 := Un.as hv29 kr_lits.2.2.2.1
  refine ⟨_, rfl, trivial, ?_⟩
  refine Pl.qA_go trivial rfl ?_
  refine Pl.pA_end ?_
  repeat refine Pl.V_seq ?_
  refine Pl.V_region (by kernel_rfl) ?_
  refine Pl.pA_call rfl rfl rfl rfl rfl (fun u X => Pl.enters Tryz.func16 (by kernel_rfl) rfl u X) ?_
  refine Calls.mono (sqrt_calls 0 _ _ (Un_nil _) (Sn.le (Sn.zero (K := 1)) (by decide))) ?_
  rintro e w18 ⟨v30, v31, rfl, hv30, hv31, hE18⟩
  have sz18 := Pl.Ex.size hE18
  replace hv30 := Un.as hv30 kr_lits.2.2.2.2.1
  replace hv31 := Un.as hv31 (Nat.zero_sub _)
  refine ⟨_, rfl, trivial, ?_⟩
  refine Pl.qA_go trivial rfl ?_
  refine Pl.pA_end ?_
  repeat refine Pl.V_seq ?_
  refine Pl.V_region (by kernel_rfl) ?_
  have hbz32 : blen 0 ≤ 32 * 1 := Sn.blen (Sn.zero (K := 1))
  refine Pl.pA_call rfl rfl rfl rfl rfl (fun u X => Pl.enters Tryz.func14 (by kernel_rfl) rfl u X) ?_
  refine Calls.mono (root_N _ _ 0 (Un_nil _) (Sn.le (Sn.zero (K := 1)) (by decide)) 7 (by decide) (by decide) (fun j hj hlt => by omega)) ?_
  rintro e w19 ⟨v33, rfl, hv33, hE19⟩
  have sz19 := Pl.Ex.size hE19
  replace hv33 := Un.as hv33 kr_lits.2.2.2.2.2
  refine ⟨_, rfl, trivial, ?_⟩
  refine Pl.qA_go trivial rfl ?_
  refine Pl.pA_end ?_
  repeat refine Pl.V_seq ?_
  refine Pl.V_region (by kernel_rfl) ?_
  refine Pl.qA_go trivial rfl ?_
  refine Pl.qA_bs (e := 36) (n := 1) [.int .u32 2] rfl rfl rfl rfl (by kernel_rfl) (fun Y hY => trivial) ?_
  intro N34 w20 hE20 hN_N34 k_N34_0
  have z_N34 := Pl.Cb.lt k_N34_0
  have sz20 := Pl.Ex.size hE20
  have hl35 := Un.one (x := 2) k_N34_0 rfl (by omega)
  refine Pl.pA_call rfl rfl rfl rfl rfl (fun u X => Pl.enters Tryz.func20 (by kernel_rfl) rfl u X) ?_
  refine Calls.mono (same1 _ _ _ 2 2 (Un.below hv4 (Pl.Ex.trans hE3 (Pl.Ex.trans hE4 (Pl.Ex.trans hE5 (Pl.Ex.trans hE6 (Pl.Ex.trans hE7 (Pl.Ex.trans hE8 (Pl.Ex.trans hE9 (Pl.Ex.trans hE10 (Pl.Ex.trans hE11 (Pl.Ex.trans hE12 (Pl.Ex.trans hE13 (Pl.Ex.trans hE14 (Pl.Ex.trans hE15 (Pl.Ex.trans hE16 (Pl.Ex.trans hE17 (Pl.Ex.trans hE18 (Pl.Ex.trans hE19 hE20)))))))))))))))))) hl35 true (decide_eq_true rfl)) ?_
  rintro e w21 ⟨rfl, hE21⟩
  have sz21 := Pl.Ex.size hE21
  refine ⟨_, rfl, trivial, ?_⟩
  refine Pl.qA_go trivial rfl ?_
  refine Pl.qA_b (v := .bool true) (fun X => Pl.r_eql (Pl.e_t (by omega)) X) trivial rfl rfl rfl rfl rfl rfl ?_
  refine Pl.qA_go trivial rfl ?_
  refine Pl.qA_bs (e := 36) (n := 1) [.int .u32 4294967295] rfl rfl rfl rfl (by kernel_rfl) (fun Y hY => trivial) ?_
  intro N36 w22 hE22 hN_N36 k_N36_0
  have z_N36 := Pl.Cb.lt k_N36_0
  have sz22 := Pl.Ex.size hE22
  have hl37 := Un.one (x := 4294967295) k_N36_0 rfl (by omega)
  refine Pl.pA_call rfl rfl rfl rfl rfl (fun u X => Pl.enters Tryz.func20 (by kernel_rfl) rfl u X) ?_
  refine Calls.mono (same1 _ _ _ 4294967295 4294967295 (Un.below hv7 (Pl.Ex.trans hE5 (Pl.Ex.trans hE6 (Pl.Ex.trans hE7 (Pl.Ex.trans hE8 (Pl.Ex.trans hE9 (Pl.Ex.trans hE10 (Pl.Ex.trans hE11 (Pl.Ex.trans hE12 (Pl.Ex.trans hE13 (Pl.Ex.trans hE14 (Pl.Ex.trans hE15 (Pl.Ex.trans hE16 (Pl.Ex.trans hE17 (Pl.Ex.trans hE18 (Pl.Ex.trans hE19 (Pl.Ex.trans hE20 (Pl.Ex.trans hE21 hE22)))))))))))))))))) hl37 true (decide_eq_true rfl)) ?_
  rintro e w23 ⟨rfl, hE23⟩
  have sz23 := Pl.Ex.size hE23
  refine ⟨_, rfl, trivial, ?_⟩
  refine Pl.qA_go trivial rfl ?_
  refine Pl.qA_bs (e := 36) (n := 2) [.int .u32 4294967294, .int .u32 1] rfl rfl rfl rfl (by kernel_rfl) (fun Y hY => trivial) ?_
  intro N38 w24 hE24 hN_N38 k_N38_0
  have z_N38 := Pl.Cb.lt k_N38_0
  have sz24 := Pl.Ex.size hE24
  have hl39 := Un.lits (xs := [4294967294, 1]) (n := 8589934590) k_N38_0 (by decide) (by decide) (by decide)
  refine Pl.pA_call rfl rfl rfl rfl rfl (fun u X => Pl.enters Tryz.func20 (by kernel_rfl) rfl u X) ?_
  refine Calls.mono (same1 _ _ _ 8589934590 8589934590 (Un.below hv8 (Pl.Ex.trans hE5 (Pl.Ex.trans hE6 (Pl.Ex.trans hE7 (Pl.Ex.trans hE8 (Pl.Ex.trans hE9 (Pl.Ex.trans hE10 (Pl.Ex.trans hE11 (Pl.Ex.trans hE12 (Pl.Ex.trans hE13 (Pl.Ex.trans hE14 (Pl.Ex.trans hE15 (Pl.Ex.trans hE16 (Pl.Ex.trans hE17 (Pl.Ex.trans hE18 (Pl.Ex.trans hE19 (Pl.Ex.trans hE20 (Pl.Ex.trans hE21 (Pl.Ex.trans hE22 (Pl.Ex.trans hE23 hE24)))))))))))))))))))) hl39 true (decide_eq_true rfl)) ?_
  rintro e w25 ⟨rfl, hE25⟩
  have sz25 := Pl.Ex.size hE25
  refine ⟨_, rfl, trivial, ?_⟩
  refine Pl.qA_go trivial rfl ?_
  refine Pl.qA_bs (e := 36) (n := 1) [.int .u32 2] rfl rfl rfl rfl (by kernel_rfl) (fun Y hY => trivial) ?_
  intro N40 w26 hE26 hN_N40 k_N40_0
  have z_N40 := Pl.Cb.lt k_N40_0
  have sz26 := Pl.Ex.size hE26
  have hl41 := Un.one (x := 2) k_N40_0 rfl (by omega)
  refine Pl.pA_call rfl rfl rfl rfl rfl (fun u X => Pl.enters Tryz.func20 (by kernel_rfl) rfl u X) ?_
  refine Calls.mono (same1 _ _ _ 2 2 (Un.below hv11 (Pl.Ex.trans hE7 (Pl.Ex.trans hE8 (Pl.Ex.trans hE9 (Pl.Ex.trans hE10 (Pl.Ex.trans hE11 (Pl.Ex.trans hE12 (Pl.Ex.trans hE13 (Pl.Ex.trans hE14 (Pl.Ex.trans hE15 (Pl.Ex.trans hE16 (Pl.Ex.trans hE17 (Pl.Ex.trans hE18 (Pl.Ex.trans hE19 (Pl.Ex.trans hE20 (Pl.Ex.trans hE21 (Pl.Ex.trans hE22 (Pl.Ex.trans hE23 (Pl.Ex.trans hE24 (Pl.Ex.trans hE25 hE26)))))))))))))))))))) hl41 true (decide_eq_true rfl)) ?_
  rintro e w27 ⟨rfl, hE27⟩
  have sz27 := Pl.Ex.size hE27
  refine ⟨_, rfl, trivial, ?_⟩
  refine Pl.qA_go trivial rfl ?_
  refine Pl.qA_b (v := .bool true) (fun X => Pl.r_eql (Pl.e_t (by omega)) X) trivial rfl rfl rfl rfl rfl rfl ?_
  refine Pl.qA_go trivial rfl ?_
  refine Pl.qA_bs (e := 36) (n := 1) [.int .u32 12] rfl rfl rfl rfl (by kernel_rfl) (fun Y hY => trivial) ?_
  intro N42 w28 hE28 hN_N42 k_N42_0
  have z_N42 := Pl.Cb.lt k_N42_0
  have sz28 := Pl.Ex.size hE28
  have hl43 := Un.one (x := 12) k_N42_0 rfl (by omega)
  refine Pl.pA_call rfl rfl rfl rfl rfl (fun u X => Pl.enters Tryz.func20 (by kernel_rfl) rfl u X) ?_
  refine Calls.mono (same1 _ _ _ 12 12 (Un.below hv14 (Pl.Ex.trans hE9 (Pl.Ex.trans hE10 (Pl.Ex.trans hE11 (Pl.Ex.trans hE12 (Pl.Ex.trans hE13 (Pl.Ex.trans hE14 (Pl.Ex.trans hE15 (Pl.Ex.trans hE16 (Pl.Ex.trans hE17 (Pl.Ex.trans hE18 (Pl.Ex.trans hE19 (Pl.Ex.trans hE20 (Pl.Ex.trans hE21 (Pl.Ex.trans hE22 (Pl.Ex.trans hE23 (Pl.Ex.trans hE24 (Pl.Ex.trans hE25 (Pl.Ex.trans hE26 (Pl.Ex.trans hE27 hE28)))))))))))))))))))) hl43 true (decide_eq_true rfl)) ?_
  rintro e w29 ⟨rfl, hE29⟩
  have sz29 := Pl.Ex.size hE29
  refine ⟨_, rfl, trivial, ?_⟩
  refine Pl.qA_go trivial rfl ?_
  refine Pl.qA_b (v := .bool true) (fun X => Pl.r_eql (Pl.e_t (by omega)) X) trivial rfl rfl rfl rfl rfl rfl ?_
  refine Pl.qA_go trivial rfl ?_
  obtain ⟨A44, c45, rfl⟩ := un_zero (Un.below hv15 (Pl.Ex.trans hE10 (Pl.Ex.trans hE11 (Pl.Ex.trans hE12 (Pl.Ex.trans hE13 (Pl.Ex.trans hE14 (Pl.Ex.trans hE15 (Pl.Ex.trans hE16 (Pl.Ex.trans hE17 (Pl.Ex.trans hE18 (Pl.Ex.trans hE19 (Pl.Ex.trans hE20 (Pl.Ex.trans hE21 (Pl.Ex.trans hE22 (Pl.Ex.trans hE23 (Pl.Ex.trans hE24 (Pl.Ex.trans hE25 (Pl.Ex.trans hE26 (Pl.Ex.trans hE27 (Pl.Ex.trans hE28 hE29))))))))))))))))))))
  refine Pl.qA_ln Tryz.underlying22 trivial rfl rfl rfl rfl rfl ?_
  refine Pl.qA_b (v := .bool true) (fun X => Pl.r_eql (Pl.e_t (by omega)) X) trivial rfl rfl rfl rfl rfl rfl ?_
  refine Pl.qA_go trivial rfl ?_
  refine Pl.qA_b (v := .bool true) (fun X => Pl.r_eql (Pl.e_t (by omega)) X) trivial rfl rfl rfl rfl rfl rfl ?_
  refine Pl.qA_go trivial rfl ?_
  refine Pl.qA_bs (e := 36) (n := 1) [.int .u32 3] rfl rfl rfl rfl (by kernel_rfl) (fun Y hY => trivial) ?_
  intro N46 w30 hE30 hN_N46 k_N46_0
  have z_N46 := Pl.Cb.lt k_N46_0
  have sz30 := Pl.Ex.size hE30
  have hl47 := Un.one (x := 3) k_N46_0 rfl (by omega)
  refine Pl.pA_call rfl rfl rfl rfl rfl (fun u X => Pl.enters Tryz.func20 (by kernel_rfl) rfl u X) ?_
  refine Calls.mono (same1 _ _ _ 3 3 (Un.below hv19 (Pl.Ex.trans hE12 (Pl.Ex.trans hE13 (Pl.Ex.trans hE14 (Pl.Ex.trans hE15 (Pl.Ex.trans hE16 (Pl.Ex.trans hE17 (Pl.Ex.trans hE18 (Pl.Ex.trans hE19 (Pl.Ex.trans hE20 (Pl.Ex.trans hE21 (Pl.Ex.trans hE22 (Pl.Ex.trans hE23 (Pl.Ex.trans hE24 (Pl.Ex.trans hE25 (Pl.Ex.trans hE26 (Pl.Ex.trans hE27 (Pl.Ex.trans hE28 (Pl.Ex.trans hE29 hE30))))))))))))))))))) hl47 true (decide_eq_true rfl)) ?_
  rintro e w31 ⟨rfl, hE31⟩
  have sz31 := Pl.Ex.size hE31
  refine ⟨_, rfl, trivial, ?_⟩
  refine Pl.qA_go trivial rfl ?_
  refine Pl.qA_b (v := .bool true) (fun X => Pl.r_eql (Pl.e_t (by omega)) X) trivial rfl rfl rfl rfl rfl rfl ?_
  refine Pl.qA_go trivial rfl ?_
  refine Pl.qA_b (v := .bool true) (fun X => Pl.r_eql (Pl.e_t (by omega)) X) trivial rfl rfl rfl rfl rfl rfl ?_
  refine Pl.qA_go trivial rfl ?_
  refine Pl.qA_b (v := .bool true) (fun X => Pl.r_eql (Pl.e_t (by omega)) X) trivial rfl rfl rfl rfl rfl rfl ?_
  refine Pl.qA_go trivial rfl ?_
  refine Pl.qA_bs (e := 36) (n := 1) [.int .u32 1] rfl rfl rfl rfl (by kernel_rfl) (fun Y hY => trivial) ?_
  intro N48 w32 hE32 hN_N48 k_N48_0
  have z_N48 := Pl.Cb.lt k_N48_0
  have sz32 := Pl.Ex.size hE32
  have hl49 := Un.one (x := 1) k_N48_0 rfl (by omega)
  refine Pl.pA_call rfl rfl rfl rfl rfl (fun u X => Pl.enters Tryz.func20 (by kernel_rfl) rfl u X) ?_
  refine Calls.mono (same1 _ _ _ 1 1 (Un.below hv29 (Pl.Ex.trans hE18 (Pl.Ex.trans hE19 (Pl.Ex.trans hE20 (Pl.Ex.trans hE21 (Pl.Ex.trans hE22 (Pl.Ex.trans hE23 (Pl.Ex.trans hE24 (Pl.Ex.trans hE25 (Pl.Ex.trans hE26 (Pl.Ex.trans hE27 (Pl.Ex.trans hE28 (Pl.Ex.trans hE29 (Pl.Ex.trans hE30 (Pl.Ex.trans hE31 hE32))))))))))))))) hl49 true (decide_eq_true rfl)) ?_
  rintro e w33 ⟨rfl, hE33⟩
  have sz33 := Pl.Ex.size hE33
  refine ⟨_, rfl, trivial, ?_⟩
  refine Pl.qA_go trivial rfl ?_
  refine Pl.qA_b (v := .bool true) (fun X => Pl.r_eql (Pl.e_t (by omega)) X) trivial rfl rfl rfl rfl rfl rfl ?_
  refine Pl.qA_go trivial rfl ?_
  obtain ⟨A50, c51, rfl⟩ := un_zero (Un.below hv30 (Pl.Ex.trans hE19 (Pl.Ex.trans hE20 (Pl.Ex.trans hE21 (Pl.Ex.trans hE22 (Pl.Ex.trans hE23 (Pl.Ex.trans hE24 (Pl.Ex.trans hE25 (Pl.Ex.trans hE26 (Pl.Ex.trans hE27 (Pl.Ex.trans hE28 (Pl.Ex.trans hE29 (Pl.Ex.trans hE30 (Pl.Ex.trans hE31 (Pl.Ex.trans hE32 hE33)))))))))))))))
  refine Pl.qA_ln Tryz.underlying22 trivial rfl rfl rfl rfl rfl ?_
  refine Pl.qA_go trivial rfl ?_
  obtain ⟨A52, c53, rfl⟩ := un_zero (Un.below hv31 (Pl.Ex.trans hE19 (Pl.Ex.trans hE20 (Pl.Ex.trans hE21 (Pl.Ex.trans hE22 (Pl.Ex.trans hE23 (Pl.Ex.trans hE24 (Pl.Ex.trans hE25 (Pl.Ex.trans hE26 (Pl.Ex.trans hE27 (Pl.Ex.trans hE28 (Pl.Ex.trans hE29 (Pl.Ex.trans hE30 (Pl.Ex.trans hE31 (Pl.Ex.trans hE32 hE33)))))))))))))))
  refine Pl.qA_ln Tryz.underlying22 trivial rfl rfl rfl rfl rfl ?_
  refine Pl.qA_b (v := .int .i64 0) (fun X => nb_add_i64 (a := 0) (b := 0) (by omega) X) trivial rfl rfl rfl rfl rfl rfl ?_
  refine Pl.qA_b (v := .bool true) (fun X => Pl.r_eql (Pl.e_t (by omega)) X) trivial rfl rfl rfl rfl rfl rfl ?_
  refine Pl.qA_go trivial rfl ?_
  obtain ⟨A54, c55, rfl⟩ := un_zero (Un.below hv33 (Pl.Ex.trans hE20 (Pl.Ex.trans hE21 (Pl.Ex.trans hE22 (Pl.Ex.trans hE23 (Pl.Ex.trans hE24 (Pl.Ex.trans hE25 (Pl.Ex.trans hE26 (Pl.Ex.trans hE27 (Pl.Ex.trans hE28 (Pl.Ex.trans hE29 (Pl.Ex.trans hE30 (Pl.Ex.trans hE31 (Pl.Ex.trans hE32 hE33))))))))))))))
  refine Pl.qA_ln Tryz.underlying22 trivial rfl rfl rfl rfl rfl ?_
  refine Pl.qA_b (v := .bool true) (fun X => Pl.r_eql (Pl.e_t (by omega)) X) trivial rfl rfl rfl rfl rfl rfl ?_
  refine Pl.qA_go trivial rfl ?_
  refine Pl.qA_b (v := .bool true) (fun X => Pl.r_eql (Pl.e_t (by omega)) X) trivial rfl rfl rfl rfl rfl rfl ?_
  refine Pl.qA_go trivial rfl ?_
  refine Pl.qA_bs (e := 36) (n := 3) [.int .u32 0, .int .u32 0, .int .u32 1] rfl rfl rfl rfl (by kernel_rfl) (fun Y hY => trivial) ?_
  intro N56 w34 hE34 hN_N56 k_N56_0
  have z_N56 := Pl.Cb.lt k_N56_0
  have sz34 := Pl.Ex.size hE34
  have hl57 := Un.lits (xs := [0, 0, 1]) (n := 18446744073709551616) k_N56_0 (by decide) (by decide) (by decide)
  have hbz59 : blen 18446744073709551616 ≤ 32 * 3 := Sn.blen (Sn.bits (b := 96) (by decide) (by decide) : Sn 18446744073709551616 3)
  refine Pl.pA_call rfl rfl rfl rfl rfl (fun u X => Pl.enters Tryz.func21 (by kernel_rfl) rfl u X) ?_
  refine Calls.mono (is_calls _ _ 18446744073709551616 hl57 (Sn.le (Sn.bits (b := 96) (by decide) (by decide) : Sn 18446744073709551616 3) (by decide)) 64 (fun j hj hlt => by omega)) ?_
  rintro e w35 ⟨r58, rfl, hr58, hE35⟩
  obtain rfl : r58 = true := by exact hr58.2 ⟨by omega, big_isP⟩
  have sz35 := Pl.Ex.size hE35
  refine ⟨_, rfl, trivial, ?_⟩
  refine Pl.qA_go trivial rfl ?_
  refine Pl.qA_bs (e := 36) (n := 3) [.int .u32 0, .int .u32 0, .int .u32 1] rfl rfl rfl rfl (by kernel_rfl) (fun Y hY => trivial) ?_
  intro N60 w36 hE36 hN_N60 k_N60_0
  have z_N60 := Pl.Cb.lt k_N60_0
  have sz36 := Pl.Ex.size hE36
  have hl61 := Un.lits (xs := [0, 0, 1]) (n := 18446744073709551616) k_N60_0 (by decide) (by decide) (by decide)
  have hbz63 : blen 18446744073709551616 ≤ 32 * 3 := Sn.blen (Sn.bits (b := 96) (by decide) (by decide) : Sn 18446744073709551616 3)
  refine Pl.pA_call rfl rfl rfl rfl rfl (fun u X => Pl.enters Tryz.func21 (by kernel_rfl) rfl u X) ?_
  refine Calls.mono (is_calls _ _ 18446744073709551616 hl61 (Sn.le (Sn.bits (b := 96) (by decide) (by decide) : Sn 18446744073709551616 3) (by decide)) 3 (fun j hj hlt => by omega)) ?_
  rintro e w37 ⟨r62, rfl, hr62, hE37⟩
  obtain rfl : r62 = false := by exact Bool.eq_false_iff.2 fun h => big_not (hr62.1 h).2
  have sz37 := Pl.Ex.size hE37
  refine ⟨_, rfl, trivial, ?_⟩
  refine Pl.qA_un (v := .bool true) trivial rfl rfl rfl rfl rfl (fun X => rfl) ?_
  refine Pl.qA_go trivial rfl ?_
  have hbz65 : blen 0 ≤ 32 * 1 := Sn.blen (Sn.zero (K := 1))
  refine Pl.pA_call rfl rfl rfl rfl rfl (fun u X => Pl.enters Tryz.func21 (by kernel_rfl) rfl u X) ?_
  refine Calls.mono (is_calls _ _ 0 (Un_nil _) (Sn.le (Sn.zero (K := 1)) (by decide)) 9 (fun j hj hlt => by omega)) ?_
  rintro e w38 ⟨r64, rfl, hr64, hE38⟩
  obtain rfl : r64 = true := by exact hr64.2 ⟨by omega, (isP_one (by decide) (by decide))⟩
  have sz38 := Pl.Ex.size hE38
  refine ⟨_, rfl, trivial, ?_⟩
  refine Pl.qA_go trivial rfl ?_
  refine Pl.qA_bs (e := 36) (n := 1) [.int .u32 1] rfl rfl rfl rfl (by kernel_rfl) (fun Y hY => trivial) ?_
  intro N66 w39 hE39 hN_N66 k_N66_0
  have z_N66 := Pl.Cb.lt k_N66_0
  have sz39 := Pl.Ex.size hE39
  have hl67 := Un.one (x := 1) k_N66_0 rfl (by omega)
  have hbz69 : blen 1 ≤ 32 * 1 := Sn.blen (Sn.of (K := 1) (by omega))
  refine Pl.pA_call rfl rfl rfl rfl rfl (fun u X => Pl.enters Tryz.func21 (by kernel_rfl) rfl u X) ?_
  refine Calls.mono (is_calls _ _ 1 hl67 (Sn.le (Sn.of (K := 1) (by omega)) (by decide)) 0 (fun j hj hlt => by omega)) ?_
  rintro e w40 ⟨r68, rfl, hr68, hE40⟩
  obtain rfl : r68 = false := by exact Bool.eq_false_iff.2 fun h => absurd (hr68.1 h).1 (by decide)
  have sz40 := Pl.Ex.size hE40
  refine ⟨_, rfl, trivial, ?_⟩
  refine Pl.qA_un (v := .bool true) trivial rfl rfl rfl rfl rfl (fun X => rfl) ?_
  refine Pl.qA_go trivial rfl ?_
  refine Pl.qA_bs (e := 36) (n := 1) [.int .u32 1] rfl rfl rfl rfl (by kernel_rfl) (fun Y hY => trivial) ?_
  intro N70 w41 hE41 hN_N70 k_N70_0
  have z_N70 := Pl.Cb.lt k_N70_0
  have sz41 := Pl.Ex.size hE41
  have hl71 := Un.one (x := 1) k_N70_0 rfl (by omega)
  have hbz73 : blen 1 ≤ 32 * 1 := Sn.blen (Sn.of (K := 1) (by omega))
  refine Pl.pA_call rfl rfl rfl rfl rfl (fun u X => Pl.enters Tryz.func21 (by kernel_rfl) rfl u X) ?_
  refine Calls.mono (is_calls _ _ 1 hl71 (Sn.le (Sn.of (K := 1) (by omega)) (by decide)) 5000000 (fun j hj hlt => by omega)) ?_
  rintro e w42 ⟨r72, rfl, hr72, hE42⟩
  obtain rfl : r72 = true := by exact hr72.2 ⟨by omega, (isP_one (by decide) (by decide))⟩
  have sz42 := Pl.Ex.size hE42
  refine ⟨_, rfl, trivial, ?_⟩
  refine Pl.qA_go trivial rfl ?_
  refine Pl.qA_bs (e := 36) (n := 1) [.int .u32 2] rfl rfl rfl rfl (by kernel_rfl) (fun Y hY => trivial) ?_
  intro N74 w43 hE43 hN_N74 k_N74_0
  have z_N74 := Pl.Cb.lt k_N74_0
  have sz43 := Pl.Ex.size hE43
  have hl75 := Un.one (x := 2) k_N74_0 rfl (by omega)
  have hbz77 : blen 2 ≤ 32 * 1 := Sn.blen (Sn.of (K := 1) (by omega))
  refine Pl.pA_call rfl rfl rfl rfl rfl (fun u X => Pl.enters Tryz.func21 (by kernel_rfl) rfl u X) ?_
  refine Calls.mono (is_calls _ _ 2 hl75 (Sn.le (Sn.of (K := 1) (by omega)) (by decide)) 5000000 (fun j hj hlt => by omega)) ?_
  rintro e w44 ⟨r76, rfl, hr76, hE44⟩
  obtain rfl : r76 = false := by exact Bool.eq_false_iff.2 fun h => (kr_two (by decide) (Nat.le_trans (blen_le_of_lt (k := 2) (by decide)) (by decide))) (hr76.1 h).2
  have sz44 := Pl.Ex.size hE44
  refine ⟨_, rfl, trivial, ?_⟩
  refine Pl.qA_un (v := .bool true) trivial rfl rfl rfl rfl rfl (fun X => rfl) ?_
  refine Pl.qA_go trivial rfl ?_
  refine Pl.pA_end ?_
  repeat refine Pl.V_seq ?_
  exact Pl.post_ret rfl rfl  (⟨rfl, (Pl.Ex.trans hE1 (Pl.Ex.trans hE2 (Pl.Ex.trans hE3 (Pl.Ex.trans hE4 (Pl.Ex.trans hE5 (Pl.Ex.trans hE6 (Pl.Ex.trans hE7 (Pl.Ex.trans hE8 (Pl.Ex.trans hE9 (Pl.Ex.trans hE10 (Pl.Ex.trans hE11 (Pl.Ex.trans hE12 (Pl.Ex.trans hE13 (Pl.Ex.trans hE14 (Pl.Ex.trans hE15 (Pl.Ex.trans hE16 (Pl.Ex.trans hE17 (Pl.Ex.trans hE18 (Pl.Ex.trans hE19 (Pl.Ex.trans hE20 (Pl.Ex.trans hE21 (Pl.Ex.trans hE22 (Pl.Ex.trans hE23 (Pl.Ex.trans hE24 (Pl.Ex.trans hE25 (Pl.Ex.trans hE26 (Pl.Ex.trans hE27 (Pl.Ex.trans hE28 (Pl.Ex.trans hE29 (Pl.Ex.trans hE30 (Pl.Ex.trans hE31 (Pl.Ex.trans hE32 (Pl.Ex.trans hE33 (Pl.Ex.trans hE34 (Pl.Ex.trans hE35 (Pl.Ex.trans hE36 (Pl.Ex.trans hE37 (Pl.Ex.trans hE38 (Pl.Ex.trans hE39 (Pl.Ex.trans hE40 (Pl.Ex.trans hE41 (Pl.Ex.trans hE42 (Pl.Ex.trans hE43 hE44)))))))))))))))))))))))))))))))))))))))))))⟩)
end Go.Proofs.YtbdmncpibnligaaGreatDoor
