/- Proved: the statement DivTells: for any two rows (of at most 40 limbs), any bits (of at most 1500) and any limb: quotients and rests by each way, reciprocals, and quotients by a limb, are the document's. No condition. -/
import Derived.Test.YtikajmmeglookaaGreatDoorPj

namespace Go.Proofs.YtikajmmeglookaaGreatDoor
open Go.RowKit
set_option linter.unusedVariables false
set_option maxHeartbeats 400000

theorem lb_val (o : List Nat) (k : Nat) (hx : ∀ x ∈ o, x < 4294967296) : lb o k = val o / 4294967296 ^ k % 4294967296 := by
  rw [← val_drop o k hx]
  rcases Nat.lt_or_ge k o.length with h | h
  · rw [val_cons_drop o k h, Nat.add_mul_mod_self_left, Nat.mod_eq_of_lt (lb_lt hx k)]
  · rw [lb_out h, List.drop_eq_nil_of_le h]; rfl
/-- The bits from j on are divided. -/
structure RdI (a b La j : Nat) (o : List Nat) : Prop where
  len : o.length = La
  lt : ∀ x ∈ o, x < 4294967296
  val : val o = a / 2 ^ j / b * 2 ^ j
theorem rd_half (a j : Nat) : a / 2 ^ j = 2 * (a / 2 ^ (j + 1)) + a / 2 ^ j % 2 := by
  rw [Nat.pow_succ, ← Nat.div_div_eq_div_mul]
  exact (Nat.div_add_mod _ _).symm
theorem RdI.none {a b La j : Nat} {o : List Nat} (h : RdI a b La (j + 1) o) (bit r : Nat) (hb : a / 2 ^ j % 2 = bit) (hr : a / 2 ^ (j + 1) % b = r) (hlt : 2 * r + bit < b) : RdI a b La j o ∧ a / 2 ^ j % b = 2 * r + bit := by
  have h1 := rd_half a j
  rw [hb] at h1
  obtain ⟨h2, h3⟩ := rd_low (a / 2 ^ (j + 1)) b bit _ r rfl hr hlt
  refine ⟨⟨h.len, h.lt, ?_⟩, by rw [h1]; exact h3⟩
  rw [h.val, h1, h2, Nat.pow_succ, Nat.mul_comm (2 ^ j) 2, ← Nat.mul_assoc, Nat.mul_comm _ 2]
theorem RdI.more {a b La j : Nat} {o : List Nat} (h : RdI a b La (j + 1) o) (hb0 : 0 < b) (bit r k s P x : Nat) (hb : a / 2 ^ j % 2 = bit) (hr : a / 2 ^ (j + 1) % b = r) (hge : b ≤ 2 * r + bit) (hk : j / 32 = k) (hs : j % 32 = s) (hP : 2 ^ s = P) (hx : lb o k = x) (hkl : k < La) :
    x + P < 4294967296 ∧ RdI a b La j (o.set k (x + P)) ∧ a / 2 ^ j % b = 2 * r + bit - b := by
  have h1 := rd_half a j
  rw [hb] at h1
  have hbit : bit ≤ 1 := by omega
  obtain ⟨h2, h3⟩ := rd_high (a / 2 ^ (j + 1)) b bit _ r hb0 hbit rfl hr hge
  have hjs : j + 1 = 32 * k + (s + 1) := by omega
  have hs32 : s < 32 := by omega
  have h4 := lb_val o k h.lt
  rw [h.val, hx, hjs, Nat.pow_add, lb_two, Nat.mul_comm (2 ^ (32 * k)), ← Nat.mul_assoc, Nat.mul_div_cancel _ (Nat.two_pow_pos _)] at h4
  have h5 : x + P < 4294967296 := by
    obtain ⟨d, hd⟩ : ∃ d, 32 = s + 1 + d := ⟨31 - s, by omega⟩
    have e1 : (4294967296 : Nat) = 2 ^ (s + 1) * 2 ^ d := by rw [← Nat.pow_add, ← hd]
    generalize a / (2 ^ (s + 1) * 2 ^ (32 * k)) / b = Q at h4
    rw [e1, Nat.mul_comm Q, Nat.mul_mod_mul_left] at h4
    have e2 : Q % 2 ^ d < 2 ^ d := Nat.mod_lt _ (Nat.two_pow_pos _)
    have e3 : 2 ^ (s + 1) * (Q % 2 ^ d + 1) ≤ 2 ^ (s + 1) * 2 ^ d := Nat.mul_le_mul_left _ e2
    have e4 : 2 ^ (s + 1) = P * 2 := by rw [Nat.pow_succ, hP]
    have e5 : 0 < P := by rw [← hP]; exact Nat.two_pow_pos _
    rw [Nat.mul_add, Nat.mul_one] at e3
    omega
  refine ⟨h5, ⟨by simp [h.len], set_lt h.lt h5, ?_⟩, by rw [h1]; exact h3⟩
  have h6 := val_set o k (x + P) (by rw [h.len]; exact hkl)
  rw [hx, h.val, Nat.add_mul] at h6
  have h7 : P * 4294967296 ^ k = 2 ^ j := by rw [← hP, lb_two, ← Nat.pow_add]; congr 1; omega
  rw [h7] at h6
  have h8 : a / 2 ^ j / b * 2 ^ j = a / 2 ^ (j + 1) / b * 2 ^ (j + 1) + 2 ^ j := by
    rw [h1, h2, Nat.add_mul, Nat.one_mul, Nat.pow_succ, Nat.mul_comm (2 ^ j) 2, ← Nat.mul_assoc, Nat.mul_comm _ 2]
  rw [h8]
  omega
end Go.Proofs.YtikajmmeglookaaGreatDoor
/- The same contracts, with where the answers lie: in blocks that the call has made. -/
namespace Go.Proofs.YtikajmmeglookaaGreatDoor
open Go.RowKit
set_option linter.unusedVariables false
set_option maxHeartbeats 400000
set_option maxRecDepth 100000
attribute [local go_sem ↓] app_shut
attribute [local go_sem] run_append_tok

/-- The value begins in no block below b. -/
def Fr0 (b : Nat) (v : Value) : Prop := ∀ (ad : Addr) (n c : Nat), v = .slice (some ad) n c → b ≤ ad.block
theorem Fr0.mono {b b' : Nat} {v : Value} (h : Fr0 b v) (hb : b' ≤ b) : Fr0 b' v := fun ad n c e => Nat.le_trans hb (h ad n c e)
theorem Fr0.nil_ (b n c : Nat) : Fr0 b (.slice none n c) := fun ad n c e => by cases e
theorem Fr0.sub {b n c : Nat} {A : Option Addr} (h : Fr0 b (.slice A n c)) (k c' : Nat) : Fr0 b (.slice A k c') := fun ad n' c'' e => by
  injection e with e1 e2 e3
  subst e1
  exact h ad n c rfl
theorem Own.fr {w : World} {base : Nat} {v : Value} {o : List Nat} (h : Own w base v o) : Fr0 base v := by
  rcases h.2 with hn | ⟨g, cap, cur, rfl, hb, _⟩
  · intro ad n c e
    rw [hn.1] at e; cases e
  · intro ad n c e
    injection e with e1 _ _
    injection e1 with e1
    subst e1
    exact hb
theorem U.apart {w w' : World} {B b : Nat} {v : Value} {xs : List Nat} (h : U w v xs) (hf : Fr0 b v) (hB : B < b) (hb : But B w w') : U w' v xs := by
  obtain ⟨A, c, rfl, hc, hx, hr⟩ := h
  refine ⟨A, c, rfl, hc, hx, fun h0 => ?_⟩
  obtain ⟨ad, hA, hbk, hcell⟩ := hr h0
  subst hA
  have := hf ad _ _ rfl
  exact ⟨ad, rfl, by have := hb.size; omega, fun j hj => (hb.cell (by rw [addr_add_block]; exact hbk) (by rw [addr_add_block]; omega)).trans (hcell j hj)⟩
theorem U.old {w w' : World} {B : Nat} {w0 : World} {v : Value} {xs : List Nat} (h : U w0 v xs) (he : Ext w0 w) (hB : w0.heap.size ≤ B) (hb : But B w w') : U w' v xs := by
  refine h.keep (Nat.le_trans he.size hb.size) fun p hp => ?_
  rw [hb.cell (by have := he.size; omega) (by omega)]
  exact he.cell hp

theorem rmakeF_calls (w : World) (v : Value) (xs : List Nat) (h : U w v xs) (hlen : xs.length ≤ 1000000000) :
    Calls Tryz.prog 32 #[v] w fun e w' => (∃ u, e = .returned u ∧ U w' u (limbs (val xs)) ∧ Fr0 w.heap.size u) ∧ Below w.heap.size w w' := by
  have h' := h
  obtain ⟨A, c, rfl, ⟨hc, hm⟩, hx, hr⟩ := h
  go_enter Tryz.func32, Tryz.ntmps32
  go_wp2
  go_loop [3] (fun n => ∃ k : Nat, k ≤ xs.length ∧ n = .int .i64 k ∧ Hid (∀ j, k ≤ j → j < xs.length → lb xs j = 0)) (fun n => (intOf n).toNat)
  case atStart => exact ⟨xs.length, Nat.le_refl _, rfl, fun j h1 h2 => by omega⟩
  case round =>
    obtain ⟨k, hk, rfl, hz⟩ := hrel
    have hfin : (0 < k → lb xs (k - 1) ≠ 0) → ∃ v' w', (Builtin.append_ #[22, 22] 22 #[.slice (some ⟨w.heap.size, 0, none⟩) 0 0, .slice A k c]).run Tryz.prog (w.alloc (.cells #[] 23)) = .ok v' w' ∧ (U w' v' (limbs (val xs)) ∧ Fr0 w.heap.size v') ∧ Below w.heap.size w w' := fun h2 => by
      have hB : Below w.heap.size w (w.alloc (.cells #[] 23)) := (Below.refl _ _).alloc (Nat.le_refl _) _
      have hown : Own (w.alloc (.cells #[] 23)) w.heap.size (.slice (some ⟨w.heap.size, 0, none⟩) 0 0) [] := World.ownsRow_lit w #[] 0 (Nat.le_refl _) (Nat.zero_le _) rfl
      have hu : U w (.slice A k c) (xs.take k) := h'.take hk (by omega)
      have htl : (xs.take k).length = k := by simp; omega
      obtain ⟨v', w', hrun, ho, hg⟩ := run_append_U _ w.heap.size _ [] hown _ _ (hu.below hB) (by rw [htl]; simp; omega) hB.size
      refine ⟨v', w', hrun, ?_, hB.grown hg hB.size (fun j e => by cases e; exact Nat.le_refl _)⟩
      refine ⟨?_, ho.fr⟩
      rw [strip_eq xs k hx hk hz.out h2]
      rw [List.nil_append] at ho
      exact ho.toU (fun x hx' => hx x (List.mem_of_mem_take hx')) (by rw [htl]; omega)
    rcases Nat.eq_zero_or_pos k with rfl | h0
    · obtain ⟨v', w', hrun, HU, HB⟩ := hfin (fun h => absurd h (by omega))
      obtain ⟨t1, t2, t3⟩ := app_tok hrun
      clear hfin hrun
      go_wp2
      go_ret
      exact ⟨⟨_, rfl, HU⟩, HB⟩
    · obtain ⟨ad, rfl, hb, hcell⟩ := hr (by omega)
      have hc1 := hcell (k - 1) (by omega)
      by_cases hx0 : lb xs (k - 1) = 0
      · have ht : ((((lb xs (k - 1) : Nat)) : Int) == 0) = true := by rw [hx0]; rfl
        have HX := Lib.hid hx0
        clear hx0 hfin
        go_wp2
        go_round
        case rel => exact ⟨k - 1, by omega, by go_num, fun j h1 h2 => by
          rcases Nat.lt_or_ge j k with h3 | h3
          · have : j = k - 1 := by omega
            subst this; exact HX.out
          · exact hz.out j h3 h2⟩
        case measure => simp [intOf]; omega
      · have ht : ((((lb xs (k - 1) : Nat)) : Int) == 0) = false := by rw [beq_eq_false_iff_ne]; omega
        obtain ⟨v', w', hrun, HU, HB⟩ := hfin (fun _ => hx0)
        obtain ⟨t1, t2, t3⟩ := app_tok hrun
        clear hfin hrun hx0
        go_wp2
        go_ret
        exact ⟨⟨_, rfl, HU⟩, HB⟩

set_option maxRecDepth 100000 in
theorem raddF_calls (w : World) (v u : Value) (xs ys : List Nat) (h : U w v xs) (g : U w u ys) (hl : xs.length ≤ 100000000) (hl2 : ys.length ≤ 100000000) :
    Calls Tryz.prog 28 #[v, u] w fun e w' => (∃ z, e = .returned z ∧ U w' z (limbs (val xs + val ys)) ∧ Fr0 w.heap.size z) ∧ Below w.heap.size w w' := by
  obtain ⟨A, c, rfl, ⟨hc, hm⟩, hx, hr⟩ := id h
  obtain ⟨A2, c2, rfl, ⟨hc2, hm2⟩, hx2, hr2⟩ := id g
  clear hr hr2
  go_enter Tryz.func28, Tryz.ntmps28
  go_wp2_with (fail)
  have hown0 : Own (w.alloc (.cells #[] 23)) w.heap.size (.slice (some ⟨w.heap.size, 0, none⟩) 0 0) [] := World.ownsRow_lit w #[] 0 (Nat.le_refl _) (Nat.zero_le _) rfl
  have hB0 : Below w.heap.size w (w.alloc (.cells #[] 23)) := (Below.refl _ _).alloc (Nat.le_refl _) _
  go_loopw [5, 6, 7] (fun s cv i wr => ∃ (k cy : Nat) (o : List Nat), k ≤ max xs.length ys.length + 1 ∧ i = .int .i64 k ∧ cv = .int .u64 cy ∧ Hid (RAdd xs ys k o cy) ∧ Own wr w.heap.size s o ∧ Below w.heap.size w wr) (fun _ _ i _ => max xs.length ys.length + 2 - (intOf i).toNat)
  case atStart => exact ⟨0, 0, [], Nat.zero_le _, rfl, rfl, RAdd.start xs ys, hown0, hB0⟩
  case round =>
    clear hown0 hB0
    obtain ⟨k, cy, o, hk, rfl, rfl, HO, hown, hB⟩ := hrel
    by_cases hd1 : k ≤ xs.length
    · have h1 := lb_lt hx k
      have h2 := lb_lt hx2 k
      have h3 := HO.out.carry
      have hlen := HO.out.len
      obtain ⟨x1, hx1⟩ : ∃ x1, (lb xs k + lb ys k + cy) % 4294967296 = x1 := ⟨_, rfl⟩
      obtain ⟨c1, hc1⟩ : ∃ c1, (lb xs k + lb ys k + cy) / 4294967296 = c1 := ⟨_, rfl⟩
      have HO2 : Hid (RAdd xs ys (k + 1) (o ++ [x1]) c1) := by rw [Hid, ← hx1, ← hc1]; exact HO.out.step hx hx2
      obtain ⟨v', w', hrun, hown', hB'⟩ := zpush_own hB hown ((((lb xs k : Nat) : Int) + ((lb ys k : Nat) : Int) + (cy : Int)) % 4294967296) x1 (by rw [← hx1]; omega) (by rw [← hx1]; exact Nat.mod_lt _ (by decide)) (by omega)
      obtain ⟨t1, t2, t3⟩ := app_tok hrun
      have hk2 : k + 1 ≤ max xs.length ys.length + 1 := by omega
      have HC1 : Hid ((((lb xs k : Nat) : Int) + ((lb ys k : Nat) : Int) + (cy : Int)) / 4294967296 = (c1 : Int)) := by rw [Hid, ← hc1]; omega
      clear hrun hx1 hc1 hlen
      go_wp2_with (fail)
      refine (rlimb_at _ _ xs _ k rfl (h.below hB)).mono ?_
      rintro e w' ⟨rfl, rfl⟩
      go_wp2_with (fail)
      refine (rlimb_at _ _ ys _ k rfl (g.below hB)).mono ?_
      rintro e w' ⟨rfl, rfl⟩
      go_wp2_with (fail)
      go_roundw
      case rel => exact ⟨k + 1, c1, _, hk2, by go_num, by rw [HC1.out], HO2, hown', hB'⟩
      case measure => simp [intOf]; omega
    · by_cases hd2 : k ≤ ys.length
      · have h1 := lb_lt hx k
        have h2 := lb_lt hx2 k
        have h3 := HO.out.carry
        have hlen := HO.out.len
        obtain ⟨x1, hx1⟩ : ∃ x1, (lb xs k + lb ys k + cy) % 4294967296 = x1 := ⟨_, rfl⟩
        obtain ⟨c1, hc1⟩ : ∃ c1, (lb xs k + lb ys k + cy) / 4294967296 = c1 := ⟨_, rfl⟩
        have HO2 : Hid (RAdd xs ys (k + 1) (o ++ [x1]) c1) := by rw [Hid, ← hx1, ← hc1]; exact HO.out.step hx hx2
        obtain ⟨v', w', hrun, hown', hB'⟩ := zpush_own hB hown ((((lb xs k : Nat) : Int) + ((lb ys k : Nat) : Int) + (cy : Int)) % 4294967296) x1 (by rw [← hx1]; omega) (by rw [← hx1]; exact Nat.mod_lt _ (by decide)) (by omega)
        obtain ⟨t1, t2, t3⟩ := app_tok hrun
        have hk2 : k + 1 ≤ max xs.length ys.length + 1 := by omega
        have HC1 : Hid ((((lb xs k : Nat) : Int) + ((lb ys k : Nat) : Int) + (cy : Int)) / 4294967296 = (c1 : Int)) := by rw [Hid, ← hc1]; omega
        clear hrun hx1 hc1 hlen
        go_wp2_with (fail)
        refine (rlimb_at _ _ xs _ k rfl (h.below hB)).mono ?_
        rintro e w' ⟨rfl, rfl⟩
        go_wp2_with (fail)
        refine (rlimb_at _ _ ys _ k rfl (g.below hB)).mono ?_
        rintro e w' ⟨rfl, rfl⟩
        go_wp2_with (fail)
        go_roundw
        case rel => exact ⟨k + 1, c1, _, hk2, by go_num, by rw [HC1.out], HO2, hown', hB'⟩
        case measure => simp [intOf]; omega
      · have hlen := HO.out.len
        obtain ⟨j, rfl⟩ : ∃ j, k = j + 1 := ⟨k - 1, by omega⟩
        have HV : Hid (val o = val xs + val ys) := HO.out.done hx hx2 (by omega) (by omega)
        have hu := hown.toU HO.out.lt (by omega)
        have hol : o.length ≤ 1000000000 := by omega
        clear hlen
        go_wp2_with (fail)
        refine (rmakeF_calls _ _ _ hu hol).mono ?_
        rintro e w' ⟨⟨z, rfl, hz, hf⟩, hB2⟩
        have hf2 : Hid (Fr0 w.heap.size z) := hf.mono hB.size
        clear hf
        rw [HV.out] at hz
        replace hB := Below.trans hB (Below.mono hB2 hB.size)
        go_wp2
        go_ret
        exact ⟨⟨_, rfl, hz, hf2.out⟩, hB⟩

set_option maxRecDepth 100000 in
theorem rsubF_calls (w : World) (v u : Value) (n m : Nat) (h : Un w v n) (g : Un w u m) (hl : (limbs n).length ≤ 100000000) (hl2 : (limbs m).length ≤ 100000000) (b : Bool) (hb : decide (m ≤ n) = b) (d : Nat) (hd : n - m = d) :
    Calls Tryz.prog 34 #[v, u] w fun e w' => (∃ z, e = .returned (.tuple #[z, .bool b]) ∧ Un w' z d ∧ Fr0 w.heap.size z) ∧ Below w.heap.size w w' := by
  obtain ⟨A, c, rfl, ⟨hc, hm⟩, hx, hr⟩ := id h
  obtain ⟨A2, c2, rfl, ⟨hc2, hm2⟩, hx2, hr2⟩ := id g
  clear hr hr2
  rcases Nat.lt_or_ge n m with hlt | hge
  · have HF : Hid (cmpI (val (limbs n) : Nat) (val (limbs m) : Nat) = -1) := by rw [Hid, val_limbs, val_limbs]; exact cmpI_lt (Int.ofNat_lt.2 hlt)
    obtain rfl : d = 0 := by omega
    obtain rfl : b = false := by rw [← hb, decide_eq_false_iff_not]; omega
    clear hb hd hlt
    go_enter Tryz.func34, Tryz.ntmps34
    go_wp2_with (fail)
    refine (rcmp_calls _ _ _ _ _ h g (by omega) (by omega)).mono ?_
    rintro e w' ⟨rfl, rfl⟩
    rw [HF.out]
    go_wp2
    go_ret2
    exact ⟨⟨_, rfl, Un_nil _, Fr0.nil_ _ _ _⟩, Below.refl _ _⟩
  · have HF : Hid (0 ≤ cmpI (val (limbs n) : Nat) (val (limbs m) : Nat)) := by
      rw [Hid, val_limbs, val_limbs]
      rcases Nat.lt_or_ge m n with h1 | h1
      · rw [cmpI_gt (Int.ofNat_lt.2 h1)]; decide
      · obtain rfl : n = m := by omega
        rw [cmpI_eq]; decide
    obtain rfl : b = true := by rw [← hb, decide_eq_true_iff]; omega
    have HD := Lib.hid hd
    have HG := Lib.hid hge
    have hll := len_mono hge
    clear hb hd hge
    obtain ⟨K, hK⟩ : ∃ K, cmpI (val (limbs n) : Nat) (val (limbs m) : Nat) = K := ⟨_, rfl⟩
    have hK0 : 0 ≤ K := by rw [← hK]; exact HF.out
    clear HF
    go_enter Tryz.func34, Tryz.ntmps34
    go_wp2_with (fail)
    refine (rcmp_calls _ _ _ _ _ h g (by omega) (by omega)).mono ?_
    rintro e w' ⟨rfl, rfl⟩
    rw [hK]
    clear hK
    go_wp2_with (fail)
    have hown0 : Own (w.alloc (.cells #[] 23)) w.heap.size (.slice (some ⟨w.heap.size, 0, none⟩) 0 0) [] := World.ownsRow_lit w #[] 0 (Nat.le_refl _) (Nat.zero_le _) rfl
    have hB0 : Below w.heap.size w (w.alloc (.cells #[] 23)) := (Below.refl _ _).alloc (Nat.le_refl _) _
    go_loopw [6, 7, 8] (fun s cv i wr => ∃ (k cy : Nat) (o : List Nat), k ≤ (limbs n).length ∧ i = .int .i64 k ∧ cv = .int .u64 cy ∧ Hid (RSub (limbs n) (limbs m) k o cy) ∧ Own wr w.heap.size s o ∧ Below w.heap.size w wr) (fun _ _ i _ => (limbs n).length - (intOf i).toNat)
    case atStart => exact ⟨0, 0, [], Nat.zero_le _, rfl, rfl, RSub.start _ _, hown0, hB0⟩
    case round =>
      clear hown0 hB0
      obtain ⟨k, cy, o, hk, rfl, rfl, HO, hown, hB⟩ := hrel
      by_cases hd1 : k < (limbs n).length
      · have h1 := lb_lt hx k
        have h2 := lb_lt hx2 k
        have h3 := HO.out.carry
        have hlen := HO.out.len
        obtain ⟨x1, hx1⟩ : ∃ x1, (4294967296 + lb (limbs n) k - lb (limbs m) k - cy) % 4294967296 = x1 := ⟨_, rfl⟩
        obtain ⟨c1, hc1⟩ : ∃ c1, 1 - (4294967296 + lb (limbs n) k - lb (limbs m) k - cy) / 4294967296 = c1 := ⟨_, rfl⟩
        have HO2 : Hid (RSub (limbs n) (limbs m) (k + 1) (o ++ [x1]) c1) := by rw [Hid, ← hx1, ← hc1]; exact HO.out.step hx hx2
        obtain ⟨v', w', hrun, hown', hB'⟩ := zpush_own hB hown ((4294967296 + ((lb (limbs n) k : Nat) : Int) - ((lb (limbs m) k : Nat) : Int) - (cy : Int)) % 4294967296) x1 (by rw [← hx1]; omega) (by rw [← hx1]; exact Nat.mod_lt _ (by decide)) (by omega)
        obtain ⟨t1, t2, t3⟩ := app_tok hrun
        have HC1 : Hid (1 - (4294967296 + ((lb (limbs n) k : Nat) : Int) - ((lb (limbs m) k : Nat) : Int) - (cy : Int)) / 4294967296 = (c1 : Int)) := by rw [Hid, ← hc1]; omega
        clear hrun hx1 hc1 hlen
        go_wp2_with (fail)
        refine (rlimb_at _ _ (limbs n) _ k rfl (U.below h hB)).mono ?_
        rintro e w' ⟨rfl, rfl⟩
        go_wp2_with (fail)
        refine (rlimb_at _ _ (limbs m) _ k rfl (U.below g hB)).mono ?_
        rintro e w' ⟨rfl, rfl⟩
        go_wp2_with (fail)
        go_roundw
        case rel => exact ⟨k + 1, c1, _, by omega, by go_num, by rw [HC1.out], HO2, hown', hB'⟩
        case measure => simp [intOf]; omega
      · have hlen := HO.out.len
        obtain rfl : k = (limbs n).length := by omega
        have HV : Hid (val o = d) := by rw [Hid, HO.out.done hll (by rw [val_limbs, val_limbs]; exact HG.out), val_limbs, val_limbs]; exact HD.out
        have hu := hown.toU HO.out.lt (by omega)
        have hol : o.length ≤ 1000000000 := by omega
        clear hlen
        go_wp2_with (fail)
        refine (rmakeF_calls _ _ _ hu hol).mono ?_
        rintro e w' ⟨⟨z, rfl, hz, hf⟩, hB2⟩
        have hf2 : Hid (Fr0 w.heap.size z) := hf.mono hB.size
        clear hf
        have hz2 : Un w' z d := by rw [← HV.out]; exact hz
        replace hB := Below.trans hB (Below.mono hB2 hB.size)
        clear hz
        go_wp2
        go_ret2
        exact ⟨⟨_, rfl, hz2, hf2.out⟩, hB⟩

set_option maxRecDepth 100000 in
theorem rshlF_calls (w : World) (v : Value) (n : Nat) (k0 : Nat) (hk : k0 ≤ 100000000) (h : Un w v n) (hl : (limbs n).length ≤ 100000000) :
    Calls Tryz.prog 25 #[v, .int .i64 (k0 : Int)] w fun e w' => (∃ u, e = .returned u ∧ Un w' u (n * 2 ^ k0) ∧ Fr0 w.heap.size u) ∧ Below w.heap.size w w' := by
  obtain ⟨A, c, rfl, ⟨hc, hm⟩, hx, hr⟩ := id h
  clear hr
  obtain ⟨Q, hQ⟩ : ∃ Q, k0 / 32 = Q := ⟨_, rfl⟩
  obtain ⟨S, hS⟩ : ∃ S, k0 % 32 = S := ⟨_, rfl⟩
  have eQ : (k0 : Int) / 32 = (Q : Int) := by omega
  have eS : (k0 : Int) % 32 = (S : Int) := by omega
  have HK : Hid (k0 = 32 * Q + S) := by rw [Hid]; omega
  have hS32 : S < 32 := by omega
  have hQ1 : Q ≤ 100000000 := by omega
  go_enter Tryz.func25, Tryz.ntmps25
  go_wp2_with (fail)
  have hown0 : Own (w.alloc (.cells #[] 23)) w.heap.size (.slice (some ⟨w.heap.size, 0, none⟩) 0 0) [] := World.ownsRow_lit w #[] 0 (Nat.le_refl _) (Nat.zero_le _) rfl
  have hB0 : Below w.heap.size w (w.alloc (.cells #[] 23)) := (Below.refl _ _).alloc (Nat.le_refl _) _
  go_loopw [5, 8] (fun s i wr => ∃ k : Nat, k ≤ Q ∧ i = .int .i64 k ∧ Own wr w.heap.size s (List.replicate k 0) ∧ Below w.heap.size w wr) (fun _ i _ => Q - (intOf i).toNat)
  case atStart => exact ⟨0, Nat.zero_le _, rfl, hown0, hB0⟩
  case round =>
    clear hown0 hB0
    obtain ⟨k, hk1, rfl, hown, hB⟩ := hrel
    by_cases hd1 : k < Q
    · obtain ⟨v', w', hrun, hown', hB'⟩ := zpush_own hB hown 0 0 rfl (by decide) (by simp; omega)
      obtain ⟨t1, t2, t3⟩ := app_tok hrun
      rw [← List.replicate_succ'] at hown'
      clear hrun
      go_wp2
      go_roundw
      case rel => exact ⟨k + 1, by omega, by go_num, hown', hB'⟩
      case measure => simp [intOf]; omega
    · obtain rfl : k = Q := by omega
      go_wp2_with (fail)
      go_loop [7, 9] (fun b i => ∃ j : Nat, j ≤ S ∧ i = .int .i64 j ∧ b = .int .u64 (2 ^ j : Nat)) (fun _ i => S - (intOf i).toNat)
      case atStart => exact ⟨0, Nat.zero_le _, rfl, rfl⟩
      case round =>
        obtain ⟨j, hj, rfl, rfl⟩ := hrel
        have hp1 : 2 ^ j < 4294967296 := Nat.lt_of_le_of_lt (Nat.pow_le_pow_right (by decide) (show j ≤ 31 by omega)) (by decide)
        by_cases hd2 : j < S
        · have HN : Hid (2 * ((2 ^ j : Nat) : Int) = ((2 ^ (j + 1) : Nat) : Int)) := by rw [Hid, Nat.pow_succ]; omega
          obtain ⟨X, hX⟩ : ∃ X, 2 ^ j = X := ⟨_, rfl⟩
          rw [hX] at HN hp1
          rw [hX]
          clear hX
          go_wp2
          go_round
          case rel => exact ⟨j + 1, by omega, by go_num, by rw [← HN.out]⟩
          case measure => simp [intOf]; omega
        · obtain rfl : j = S := by omega
          have hp0 : 0 < 2 ^ j := Nat.two_pow_pos j
          have HV0 : Hid (n * 2 ^ k0 = n * 2 ^ j * 4294967296 ^ k) := by
            rw [Hid, HK.out, pow32, Nat.pow_add, Nat.mul_comm (2 ^ (32 * k)), ← Nat.mul_assoc]
          obtain ⟨P, hP⟩ : ∃ P, 2 ^ j = P := ⟨_, rfl⟩
          rw [hP] at hp0 hp1 HV0
          rw [hP]
          clear hP
          go_wp2_with (fail)
          have HO0 : Hid (RShl (limbs n) k P 0 (List.replicate k 0) 0) := RShl.start _ _ _ hp0
          go_loopw [5, 6, 10] (fun s cv i wr => ∃ (m cy : Nat) (o : List Nat), m ≤ (limbs n).length + 1 ∧ i = .int .i64 m ∧ cv = .int .u64 cy ∧ Hid (RShl (limbs n) k P m o cy) ∧ Own wr w.heap.size s o ∧ Below w.heap.size w wr) (fun _ _ i _ => (limbs n).length + 1 - (intOf i).toNat)
          case atStart => exact ⟨0, 0, _, Nat.zero_le _, rfl, rfl, HO0, hown, hB⟩
          case round =>
            clear HO0 hown hB
            obtain ⟨m, cy, o, hm1, rfl, rfl, HO, hown, hB⟩ := hrel
            have hlen := HO.out.len
            by_cases hd3 : m ≤ (limbs n).length
            · have h1 := lb_lt hx m
              have h3 := HO.out.carry
              have h4 : lb (limbs n) m * P + cy < 4294967296 * P := by
                have := Nat.mul_le_mul_right P (show lb (limbs n) m + 1 ≤ 4294967296 by omega)
                rw [Nat.add_mul] at this; omega
              have e1 : ((lb (limbs n) m : Nat) : Int) * (P : Int) = ((lb (limbs n) m * P : Nat) : Int) := by rw [Int.natCast_mul]
              have hm3 : ((lb (limbs n) m : Nat) : Int) * (P : Int) + (cy : Int) < 18446744073709551616 := by rw [e1]; omega
              have hm4 : 0 ≤ ((lb (limbs n) m : Nat) : Int) * (P : Int) := by rw [e1]; omega
              obtain ⟨x1, hx1⟩ : ∃ x1, (lb (limbs n) m * P + cy) % 4294967296 = x1 := ⟨_, rfl⟩
              obtain ⟨c1, hc1⟩ : ∃ c1, (lb (limbs n) m * P + cy) / 4294967296 = c1 := ⟨_, rfl⟩
              have HO2 : Hid (RShl (limbs n) k P (m + 1) (o ++ [x1]) c1) := by rw [Hid, ← hx1, ← hc1]; exact HO.out.step hx
              obtain ⟨v', w', hrun, hown', hB'⟩ := zpush_own hB hown ((((lb (limbs n) m : Nat) : Int) * (P : Int) + (cy : Int)) % 4294967296) x1 (by rw [← hx1, e1]; omega) (by rw [← hx1]; exact Nat.mod_lt _ (by decide)) (by omega)
              obtain ⟨t1, t2, t3⟩ := app_tok hrun
              have HC1 : Hid ((((lb (limbs n) m : Nat) : Int) * (P : Int) + (cy : Int)) / 4294967296 = (c1 : Int)) := by rw [Hid, ← hc1, e1]; omega
              clear hrun hx1 hc1 hlen e1 h4
              go_wp2_with (fail)
              refine (rlimb_at _ _ (limbs n) _ m rfl (U.below h hB)).mono ?_
              rintro e w' ⟨rfl, rfl⟩
              go_wp2_with (fail)
              go_roundw
              case rel => exact ⟨m + 1, c1, _, by omega, by go_num, by rw [HC1.out], HO2, hown', hB'⟩
              case measure => simp [intOf]; omega
            · obtain rfl : m = (limbs n).length + 1 := by omega
              have HV : Hid (val o = n * 2 ^ k0) := by rw [Hid, HO.out.done hx (Nat.le_refl _) hp1, val_limbs, HV0.out]
              have hu := hown.toU HO.out.lt (by omega)
              have hol : o.length ≤ 1000000000 := by omega
              clear hlen
              go_wp2_with (fail)
              refine (rmakeF_calls _ _ _ hu hol).mono ?_
              rintro e w' ⟨⟨z, rfl, hz, hf⟩, hB2⟩
              have hf2 : Hid (Fr0 w.heap.size z) := hf.mono hB.size
              clear hf
              have hz2 : Un w' z (n * 2 ^ k0) := by rw [← HV.out]; exact hz
              replace hB := Below.trans hB (Below.mono hB2 hB.size)
              clear hz
              go_wp2
              go_ret
              exact ⟨⟨_, rfl, hz2, hf2.out⟩, hB⟩

theorem raddF (w : World) (v u : Value) (n m : Nat) (h : Un w v n) (g : Un w u m) (hm : (limbs n).length ≤ 100000000) (hm2 : (limbs m).length ≤ 100000000) (s : Nat) (hs : n + m = s) :
    Calls Tryz.prog 28 #[v, u] w fun e w' => ∃ z, e = .returned z ∧ Un w' z s ∧ Fr0 w.heap.size z ∧ Ext w w' := by
  subst hs
  have := raddF_calls w v u _ _ h g hm hm2
  rw [val_limbs, val_limbs] at this
  exact this.mono fun e w' ⟨⟨z, he, hz, hf⟩, hb⟩ => ⟨z, he, hz, hf, hb⟩
theorem rsubF (w : World) (v u : Value) (n m : Nat) (h : Un w v n) (g : Un w u m) (hm : (limbs n).length ≤ 100000000) (hm2 : (limbs m).length ≤ 100000000) (b : Bool) (hb : decide (m ≤ n) = b) (d : Nat) (hd : n - m = d) :
    Calls Tryz.prog 34 #[v, u] w fun e w' => ∃ z, e = .returned (.tuple #[z, .bool b]) ∧ Un w' z d ∧ Fr0 w.heap.size z ∧ Ext w w' :=
  (rsubF_calls w v u n m h g hm hm2 b hb d hd).mono fun e w' ⟨⟨z, he, hz, hf⟩, hb⟩ => ⟨z, he, hz, hf, hb⟩
theorem rshlF (w : World) (v : Value) (n : Nat) (k : Nat) (h : Un w v n) (hk1 : k ≤ 100000000) (hl : (limbs n).length ≤ 100000000) (s : Nat) (hs : n * 2 ^ k = s) :
    Calls Tryz.prog 25 #[v, .int .i64 (k : Int)] w fun e w' => ∃ z, e = .returned z ∧ Un w' z s ∧ Fr0 w.heap.size z ∧ Ext w w' := by
  subst hs
  exact (rshlF_calls w v n k hk1 h hl).mono fun e w' ⟨⟨z, he, hz, hf⟩, hb⟩ => ⟨z, he, hz, hf, hb⟩
end Go.Proofs.YtikajmmeglookaaGreatDoor
/- The document's division, walked. -/
namespace Go.Proofs.YtikajmmeglookaaGreatDoor
open Go.RowKit
set_option linter.unusedVariables false
set_option maxHeartbeats 400000

set_option maxRecDepth 100000 in
set_option maxHeartbeats 8000000 in
theorem rdm_D (w : World) (va vb : Value) (a b q r : Nat) (h_a : Un w va a) (h_b : Un w vb b) (hla : (limbs a).length ≤ 200) (hlb : (limbs b).length ≤ 200) (h0b : b ≠ 0) (hq : a / b = q) (hr : a % b = r) :
    Calls Tryz.prog 15 #[va, vb] w fun e w' => Dv w w' e q r := by
  unfold Dv
  have HB := Ext.refl w
  have hnzb := limbs_nz h0b
  have HLB := Lib.hid hlb
  obtain ⟨Ab, cb, rfl, hcb⟩ := U.shape (U.asUn h_b)
  obtain ⟨Aa, ca, rfl, hca⟩ := U.shape (U.asUn h_a)
  obtain ⟨Lb, hLb⟩ : ∃ Lb, (limbs b).length = Lb := ⟨_, rfl⟩
  obtain ⟨La, hLa⟩ : ∃ La, (limbs a).length = La := ⟨_, rfl⟩
  obtain ⟨bl, hbl⟩ : ∃ bl, blen a = bl := ⟨_, rfl⟩
  rw [hLb] at h_b hlb hnzb ⊢
  rw [hLa] at h_a hla ⊢
  have hL0 : ((Lb : Int) == 0) = false := by rw [beq_eq_false_iff_ne]; omega
  have hL1 : ¬ Lb = 0 := by omega
  have hbl2 : bl ≤ 32 * La := by rw [← hbl, ← hLa]; exact blen_le_len a
  have HBits := Lib.hid (fun W (h : Un W (.slice Aa La ca) a) => rbits_B W _ a h (by omega) (bl : Int) (by rw [hbl]))
  have HBit := Lib.hid (fun W (j : Nat) (hj : j ≤ 10000) k (hk : a / 2 ^ j % 2 = k) (h : Un W (.slice Aa La ca) a) => rbit_B W _ a (j : Int) h (by omega) (by omega) (k : Int) (by rw [bitN_nat, hk]))
  have HS0 : Hid (RdI a b La bl (List.replicate La 0)) := by
    refine ⟨by simp, by simp, ?_⟩
    rw [val_replicate_zero, Nat.div_eq_of_lt (show a < 2 ^ bl by rw [← hbl]; exact lt_pow_blen a), Nat.zero_div, Nat.zero_mul]
  have HR0 : Hid (a / 2 ^ bl % b = 0) := by rw [Hid, Nat.div_eq_of_lt (show a < 2 ^ bl by rw [← hbl]; exact lt_pow_blen a), Nat.zero_mod]
  have HDN : Hid (∀ o, RdI a b La 0 o → val o = q) := fun o h => by
    have := h.val
    rwa [Nat.pow_zero, Nat.div_one, Nat.mul_one, hq] at this
  have HDR : Hid (∀ r', a / 2 ^ 0 % b = r' → r' = r) := fun r' h => by
    rw [Nat.pow_zero, Nat.div_one, hr] at h; exact h.symm
  have HB0 := Lib.hid (show 0 < b by omega)
  have HLL : Hid (∀ x, x ≤ 2 * b + 1 → (limbs x).length ≤ 300) := fun x h => by
    have h1 : (limbs b).length ≤ 200 := by omega
    have h2 := len_add h1 h1
    have h3 : (limbs 1).length ≤ 1 := by rw [limbs_small 1 (by decide) (by decide)]; simp
    have h4 := len_add h2 h3
    exact Nat.le_trans (len_mono (show x ≤ b + b + 1 by omega)) (Nat.le_trans h4 (by decide))
  obtain ⟨i0, hi, hz0, hz1, hz2⟩ := info_parts info32
  obtain ⟨B, hB⟩ : ∃ B, w.heap.size = B := ⟨_, rfl⟩
  have HBS := Lib.hid hB
  clear hLb hLa hbl hq hr hcb hca hnzb h0b
  have ha0 := h_a
  have hb0 := h_b
  go_enter Tryz.func15, Tryz.ntmps15
  go_wp2_with (at_make; refine wpList_make_full _ rfl _ _ 22 rfl w.heap.size 23 i0 (.int .u32 0) 1 Tryz.underlying22 hi hz0 hz1 _ _ _ _ La rfl rfl (by omega) (by omega) (by rw [hz2]; omega) (by unfold maxLen; omega) (Nat.le_refl _) ?_; intro w1 hown hgrow)
  have ho0 : Own w1 w.heap.size (.slice (some ⟨w.heap.size, 0, none⟩) La La) (List.replicate La 0) := by
    have := Own.zeros hown
    rwa [List.length_replicate] at this
  have hE0 : Ext w w1 := (Ext.refl w).grown hgrow (Nat.le_refl _) (fun _ h => by cases h)
  rw [hB] at ho0
  replace h_a := U.below (U.asUn h_a) hE0
  replace h_b := U.below (U.asUn h_b) hE0
  clear hown hgrow hi hz0 hz1 hz2 i0 HB
  have hwB := ho0.block.2
  go_wp2_with (fail)
  refine (HBits.out _ (U.alloc (U.asUn h_a) _)).mono ?_
  rintro e w2 ⟨rfl, hB2⟩
  have hR0 : Un w2 (.slice (some ⟨w1.heap.size, 0, none⟩) 0 0) 0 := U.un (U.nil_ _ _ _) limbs_zero
  have hF0 : Fr0 (B + 1) (.slice (some ⟨w1.heap.size, 0, none⟩) 0 0) := fun ad n c e => by
    injection e with e1 _ _
    injection e1 with e1
    subst e1
    exact hwB
  replace ho0 := (ho0.alloc (.cells #[] 23)).ext hB2
  replace hE0 := (hE0.alloc (.cells #[] 23)).below hB2
  replace h_a := U.below (U.alloc (U.asUn h_a) _) hB2
  replace h_b := U.below (U.alloc (U.asUn h_b) _) hB2
  clear hB2 hwB HBits
  go_wp2
  go_loopw [8, 9] (fun s8 s9 wr => ∃ (j : Nat) (z : Int) (R : Nat) (o : List Nat), j ≤ bl ∧ s9 = .int .i64 z ∧ z = (j : Int) - 1 ∧ Un wr s8 R ∧ Fr0 (B + 1) s8 ∧ Hid (a / 2 ^ j % b = R) ∧ Hid (RdI a b La j o) ∧ Own wr B (.slice (some ⟨B, 0, none⟩) La La) o ∧ Ext w wr) (fun _ s9 _ => (intOf s9 + 1).toNat)
  case atStart => exact ⟨bl, _, 0, _, Nat.le_refl _, rfl, rfl, hR0, hF0, HR0, HS0, ho0, hE0⟩
  case round =>
    clear hR0 hF0 HR0 HS0 ho0 h_a h_b hE0
    obtain ⟨j, z, R, o, hj, rfl, hz, hR, hf, HRO, HO, hown, hE⟩ := hrel
    have h_a := U.below (U.asUn ha0) hE
    have h_b := U.below (U.asUn hb0) hE
    cases j with
    | zero =>
      obtain rfl : z = -1 := by omega
      obtain rfl := HDR.out R HRO.out
      have hu := hown.toU HO.out.lt (by rw [HO.out.len]; omega)
      have hlo := HO.out.len
      have HM1 := Lib.hid (rmake_B _ _ o hu (by omega) q (HDN.out o HO.out))
      have HM2 := Lib.hid (fun W (h : Un W u8 R) => rmake_B W _ (limbs R) h (by have := HLL.out R (by have := HRO.out; have := Nat.mod_lt (a / 2 ^ 0) HB0.out; omega); omega) R (val_limbs R))
      clear hu hlo hown HO HDN HDR hz h_a h_b HLL hf
      go_wp2_with (fail)
      refine HM1.out.mono ?_
      rintro e w3 ⟨v3, rfl, hv3, hB3⟩
      replace hR := U.below (U.asUn hR) hB3
      replace hE := hE.below hB3
      clear hB3 HM1
      go_wp2_with (fail)
      refine (HM2.out _ hR).mono ?_
      rintro e w4 ⟨v4, rfl, hv4, hB4⟩
      replace hE := hE.below hB4
      have HF : Hid (∃ x' y', Ending.returned (.tuple #[v3, v4, .int .i64 0]) = .returned (.tuple #[x', y', .int .i64 0]) ∧ Un w4 x' q ∧ Un w4 y' R) := ⟨_, _, rfl, U.below (U.asUn hv3) hB4, hv4⟩
      clear hB4 HM2 hv3 hv4 hR
      go_wp2
      go_ret3
      exact ⟨HF.out, hE⟩
    | succ j =>
      obtain rfl : z = (j : Int) := by omega
      clear hz
      have hwr := hown.block.2
      have hRb : R < b := by rw [← HRO.out]; exact Nat.mod_lt _ HB0.out
      obtain ⟨R1, hR1⟩ : ∃ R1, R * 2 ^ 1 = R1 := ⟨_, rfl⟩
      have HR1 := Lib.hid hR1
      have hj2 : j ≤ 10000 := by omega
      obtain ⟨k, hk⟩ : ∃ k, j / 32 = k := ⟨_, rfl⟩
      obtain ⟨s, hs⟩ : ∃ s, j % 32 = s := ⟨_, rfl⟩
      obtain ⟨P, hP⟩ : ∃ P, 2 ^ s = P := ⟨_, rfl⟩
      obtain ⟨x, hxe⟩ : ∃ x, lb o k = x := ⟨_, rfl⟩
      have hkl : k < La := by omega
      have hkl2 : k < o.length := by rw [HO.out.len]; exact hkl
      have k1 : (j : Int) / 32 = (k : Int) := by omega
      have k2 : (j : Int).tdiv 32 = (k : Int) := by rw [Int.tdiv_eq_ediv_of_nonneg (Int.natCast_nonneg _)]; exact k1
      have k3 : (j : Int) % 32 = (s : Int) := by omega
      have k4 : (j : Int).tmod 32 = (s : Int) := by rw [Int.tmod_eq_emod_of_nonneg (Int.natCast_nonneg _)]; exact k3
      have k5 : (0 : Int) ≤ (k : Int) := Int.natCast_nonneg k
      have k6 : (k : Int) < (La : Int) := by omega
      have k7 : (0 : Int) ≤ (s : Int) := Int.natCast_nonneg s
      have k8 := i64_fit (show k ≤ 1000000 by omega)
      have k9 := i64_fit (show s ≤ 1000000 by omega)
      have hPb : P ≤ 2147483648 := by
        rw [← hP]
        show 2 ^ s ≤ 2 ^ 31
        exact Nat.pow_le_pow_right (by decide) (by omega)
      have p1 : (2 : Int) ^ s = (P : Int) := by rw [← hP, Int.natCast_pow]; rfl
      have p2 := u32_fit (show P < 4294967296 by omega)
      have p3 := u32_mod (show P < 4294967296 by omega)
      rcases (show a / 2 ^ j % 2 = 0 ∨ a / 2 ^ j % 2 = 1 by omega) with hbit | hbit
      · obtain ⟨R2, hR2⟩ : ∃ R2, R1 = R2 := ⟨_, rfl⟩
        subst hR2
        by_cases hge : b ≤ R1
        · obtain ⟨d, hd⟩ : ∃ d, R1 - b = d := ⟨_, rfl⟩
          obtain ⟨h1, h2, h3⟩ := HO.out.more HB0.out 0 R k s P x hbit HRO.out (by omega) hk hs hP hxe hkl
          obtain ⟨y, hy⟩ : ∃ y, x + P = y := ⟨_, rfl⟩
          rw [hy] at h1 h2
          have HST := Lib.hid h2
          have HRR : Hid (a / 2 ^ j % b = d) := by rw [Hid, h3]; omega
          have q1 : (x : Int) + (P : Int) = (y : Int) := by omega
          have q2 := u32_fit h1
          have q3 := u32_mod h1
          have HH := Lib.hid (And.intro hj2 (And.intro hbit (And.intro hge (And.intro hd (And.intro hkl2 (And.intro hxe (And.intro hRb (And.intro hR1 (And.intro hbl2 (And.intro hlb hwr))))))))))
          clear hk hs hP h1 h2 h3 hy HO HRO hj2 hbit hge hd hkl2 hxe hRb hR1 hkl hPb hbl2 hlb hwr
          go_wp2_with (fail)
          refine (rshlF _ _ R 1 hR (by decide) (by have := HH.out; have := HLL.out R (by omega); omega) R1 HR1.out).mono ?_
          rintro e w3 ⟨v3, rfl, hv3, hf3, hB3⟩
          replace hf3 : Fr0 (B + 1) v3 := hf3.mono HH.out.2.2.2.2.2.2.2.2.2.2
          replace h_a := U.below (U.asUn h_a) hB3
          replace h_b := U.below (U.asUn h_b) hB3
          replace hown := hown.ext hB3
          replace hE := hE.below hB3
          clear hB3 hR hf
          go_wp2_with (fail)
          refine (HBit.out _ j HH.out.1 0 HH.out.2.1 h_a).mono ?_
          rintro e w4 ⟨rfl, hB4⟩
          replace h_a := U.below (U.asUn h_a) hB4
          replace h_b := U.below (U.asUn h_b) hB4
          replace hv3 := U.below (U.asUn hv3) hB4
          replace hown := hown.ext hB4
          replace hE := hE.below hB4
          clear hB4
          have hv5 := hv3
          have hf6 := hf3
          clear hv3 hf3
          have hw5 := hown.block.2
          go_wp2_with (fail)
          refine (rsubF _ _ _ R1 b hv5 h_b (by have := HH.out; have := HR1.out; have := HLL.out R1 (by omega); omega) (by have := HLB.out; omega) true (by rw [decide_eq_true_iff]; exact HH.out.2.2.1) d HH.out.2.2.2.1).mono ?_
          rintro e w6 ⟨v6, rfl, hv6, hf7, hB6⟩
          replace hf7 : Fr0 (B + 1) v6 := hf7.mono hw5
          replace hown := hown.ext hB6
          replace hE := hE.below hB6
          replace hv5 := U.below (U.asUn hv5) hB6
          clear hB6 h_a h_b
          have hcz := hown.rd.2 k HH.out.2.2.2.2.1
          rw [HH.out.2.2.2.2.2.1] at hcz
          have hfz := hown.frozen' k
          have hBq : But B w6 (w6.setCell ⟨B, k, none⟩ (.int .u32 (y : Nat))) := (But.refl B w6).setCell k _
          have hown2 := hown.set' k y
          have hv7 := U.apart (U.asUn hv6) hf7 (Nat.lt_succ_self B) hBq
          have hE2 := hE.setCell (p := ⟨B, k, none⟩) (by rw [HBS.out]; exact Nat.le_refl _) (.int .u32 (y : Nat))
          clear hv5 hf6 hv6 hown hE hBq hw5
          go_wp2
          go_region
          all_goals
            go_wp2
            go_roundw
            case rel => exact ⟨j, _, d, _, by omega, rfl, rfl, hv7, hf7, HRR, HST, hown2.drew, hE2.drew⟩
            case measure => simp [intOf]
        · obtain ⟨d, hd⟩ : ∃ d, R1 - b = d := ⟨_, rfl⟩
          obtain ⟨h2, h3⟩ := HO.out.none 0 R hbit HRO.out (by omega)
          have HST := Lib.hid h2
          have HRR : Hid (a / 2 ^ j % b = R1) := by rw [Hid, h3]; omega
          have HH := Lib.hid (And.intro hj2 (And.intro hbit (And.intro hge (And.intro hd (And.intro hkl2 (And.intro hxe (And.intro hRb (And.intro hR1 (And.intro hbl2 (And.intro hlb hwr))))))))))
          clear hk hs hP h2 h3 HO HRO hj2 hbit hge hd hkl2 hxe hRb hR1 hkl hPb hbl2 hlb hwr
          go_wp2_with (fail)
          refine (rshlF _ _ R 1 hR (by decide) (by have := HH.out; have := HLL.out R (by omega); omega) R1 HR1.out).mono ?_
          rintro e w3 ⟨v3, rfl, hv3, hf3, hB3⟩
          replace hf3 : Fr0 (B + 1) v3 := hf3.mono HH.out.2.2.2.2.2.2.2.2.2.2
          replace h_a := U.below (U.asUn h_a) hB3
          replace h_b := U.below (U.asUn h_b) hB3
          replace hown := hown.ext hB3
          replace hE := hE.below hB3
          clear hB3 hR hf
          go_wp2_with (fail)
          refine (HBit.out _ j HH.out.1 0 HH.out.2.1 h_a).mono ?_
          rintro e w4 ⟨rfl, hB4⟩
          replace h_a := U.below (U.asUn h_a) hB4
          replace h_b := U.below (U.asUn h_b) hB4
          replace hv3 := U.below (U.asUn hv3) hB4
          replace hown := hown.ext hB4
          replace hE := hE.below hB4
          clear hB4
          have hv5 := hv3
          have hf6 := hf3
          clear hv3 hf3
          have hw5 := hown.block.2
          go_wp2_with (fail)
          refine (rsubF _ _ _ R1 b hv5 h_b (by have := HH.out; have := HR1.out; have := HLL.out R1 (by omega); omega) (by have := HLB.out; omega) false (by rw [decide_eq_false_iff_not]; exact HH.out.2.2.1) d HH.out.2.2.2.1).mono ?_
          rintro e w6 ⟨v6, rfl, hv6, hf7, hB6⟩
          replace hf7 : Fr0 (B + 1) v6 := hf7.mono hw5
          replace hown := hown.ext hB6
          replace hE := hE.below hB6
          replace hv5 := U.below (U.asUn hv5) hB6
          clear hB6 h_a h_b
          clear hv6 hf7 hw5
          go_wp2
          go_roundw
          case rel => exact ⟨j, _, R1, _, by omega, rfl, rfl, hv5, hf6, HRR, HST, hown, hE⟩
          case measure => simp [intOf]
      · obtain ⟨R2, hR2⟩ : ∃ R2, R1 + 1 = R2 := ⟨_, rfl⟩
        have HR2 := Lib.hid hR2
        by_cases hge : b ≤ R2
        · obtain ⟨d, hd⟩ : ∃ d, R2 - b = d := ⟨_, rfl⟩
          obtain ⟨h1, h2, h3⟩ := HO.out.more HB0.out 1 R k s P x hbit HRO.out (by omega) hk hs hP hxe hkl
          obtain ⟨y, hy⟩ : ∃ y, x + P = y := ⟨_, rfl⟩
          rw [hy] at h1 h2
          have HST := Lib.hid h2
          have HRR : Hid (a / 2 ^ j % b = d) := by rw [Hid, h3]; omega
          have q1 : (x : Int) + (P : Int) = (y : Int) := by omega
          have q2 := u32_fit h1
          have q3 := u32_mod h1
          have HH := Lib.hid (And.intro hj2 (And.intro hbit (And.intro hge (And.intro hd (And.intro hkl2 (And.intro hxe (And.intro hRb (And.intro hR1 (And.intro hbl2 (And.intro hlb hwr))))))))))
          clear hk hs hP h1 h2 h3 hy HO HRO hj2 hbit hge hd hkl2 hxe hRb hR1 hkl hPb hbl2 hlb hwr hR2
          go_wp2_with (fail)
          refine (rshlF _ _ R 1 hR (by decide) (by have := HH.out; have := HLL.out R (by omega); omega) R1 HR1.out).mono ?_
          rintro e w3 ⟨v3, rfl, hv3, hf3, hB3⟩
          replace hf3 : Fr0 (B + 1) v3 := hf3.mono HH.out.2.2.2.2.2.2.2.2.2.2
          replace h_a := U.below (U.asUn h_a) hB3
          replace h_b := U.below (U.asUn h_b) hB3
          replace hown := hown.ext hB3
          replace hE := hE.below hB3
          clear hB3 hR hf
          go_wp2_with (fail)
          refine (HBit.out _ j HH.out.1 1 HH.out.2.1 h_a).mono ?_
          rintro e w4 ⟨rfl, hB4⟩
          replace h_a := U.below (U.asUn h_a) hB4
          replace h_b := U.below (U.asUn h_b) hB4
          replace hv3 := U.below (U.asUn hv3) hB4
          replace hown := hown.ext hB4
          replace hE := hE.below hB4
          clear hB4
          have hl := Lib.hid (pow_lit w4)
          have hw4 := hown.block.2
          go_wp2_with (fail)
          refine (raddF _ _ _ R1 1 (U.alloc (U.asUn hv3) _) hl.out (by have := HH.out; have := HR1.out; have := HLL.out R1 (by omega); omega) (by have := len_1; rw [limbs_small 1 (by decide) (by decide)]; simp) R2 HR2.out).mono ?_
          rintro e w5 ⟨v5, rfl, hv5, hf5, hB5⟩
          have hf6 : Fr0 (B + 1) v5 := hf5.mono (by simp; omega)
          replace h_a := U.below (U.alloc (U.asUn h_a) _) hB5
          replace h_b := U.below (U.alloc (U.asUn h_b) _) hB5
          replace hown := (hown.alloc _).ext hB5
          replace hE := (hE.alloc _).below hB5
          clear hB5 hf5 hv3 hf3 hl hw4
          have hw5 := hown.block.2
          go_wp2_with (fail)
          refine (rsubF _ _ _ R2 b hv5 h_b (by have := HH.out; have := HR1.out; have := HR2.out; have := HLL.out R2 (by omega); omega) (by have := HLB.out; omega) true (by rw [decide_eq_true_iff]; exact HH.out.2.2.1) d HH.out.2.2.2.1).mono ?_
          rintro e w6 ⟨v6, rfl, hv6, hf7, hB6⟩
          replace hf7 : Fr0 (B + 1) v6 := hf7.mono hw5
          replace hown := hown.ext hB6
          replace hE := hE.below hB6
          replace hv5 := U.below (U.asUn hv5) hB6
          clear hB6 h_a h_b
          have hcz := hown.rd.2 k HH.out.2.2.2.2.1
          rw [HH.out.2.2.2.2.2.1] at hcz
          have hfz := hown.frozen' k
          have hBq : But B w6 (w6.setCell ⟨B, k, none⟩ (.int .u32 (y : Nat))) := (But.refl B w6).setCell k _
          have hown2 := hown.set' k y
          have hv7 := U.apart (U.asUn hv6) hf7 (Nat.lt_succ_self B) hBq
          have hE2 := hE.setCell (p := ⟨B, k, none⟩) (by rw [HBS.out]; exact Nat.le_refl _) (.int .u32 (y : Nat))
          clear hv5 hf6 hv6 hown hE hBq hw5
          go_wp2
          go_region
          all_goals
            go_wp2
            go_roundw
            case rel => exact ⟨j, _, d, _, by omega, rfl, rfl, hv7, hf7, HRR, HST, hown2.drew, hE2.drew⟩
            case measure => simp [intOf]
        · obtain ⟨d, hd⟩ : ∃ d, R2 - b = d := ⟨_, rfl⟩
          obtain ⟨h2, h3⟩ := HO.out.none 1 R hbit HRO.out (by omega)
          have HST := Lib.hid h2
          have HRR : Hid (a / 2 ^ j % b = R2) := by rw [Hid, h3]; omega
          have HH := Lib.hid (And.intro hj2 (And.intro hbit (And.intro hge (And.intro hd (And.intro hkl2 (And.intro hxe (And.intro hRb (And.intro hR1 (And.intro hbl2 (And.intro hlb hwr))))))))))
          clear hk hs hP h2 h3 HO HRO hj2 hbit hge hd hkl2 hxe hRb hR1 hkl hPb hbl2 hlb hwr hR2
          go_wp2_with (fail)
          refine (rshlF _ _ R 1 hR (by decide) (by have := HH.out; have := HLL.out R (by omega); omega) R1 HR1.out).mono ?_
          rintro e w3 ⟨v3, rfl, hv3, hf3, hB3⟩
          replace hf3 : Fr0 (B + 1) v3 := hf3.mono HH.out.2.2.2.2.2.2.2.2.2.2
          replace h_a := U.below (U.asUn h_a) hB3
          replace h_b := U.below (U.asUn h_b) hB3
          replace hown := hown.ext hB3
          replace hE := hE.below hB3
          clear hB3 hR hf
          go_wp2_with (fail)
          refine (HBit.out _ j HH.out.1 1 HH.out.2.1 h_a).mono ?_
          rintro e w4 ⟨rfl, hB4⟩
          replace h_a := U.below (U.asUn h_a) hB4
          replace h_b := U.below (U.asUn h_b) hB4
          replace hv3 := U.below (U.asUn hv3) hB4
          replace hown := hown.ext hB4
          replace hE := hE.below hB4
          clear hB4
          have hl := Lib.hid (pow_lit w4)
          have hw4 := hown.block.2
          go_wp2_with (fail)
          refine (raddF _ _ _ R1 1 (U.alloc (U.asUn hv3) _) hl.out (by have := HH.out; have := HR1.out; have := HLL.out R1 (by omega); omega) (by have := len_1; rw [limbs_small 1 (by decide) (by decide)]; simp) R2 HR2.out).mono ?_
          rintro e w5 ⟨v5, rfl, hv5, hf5, hB5⟩
          have hf6 : Fr0 (B + 1) v5 := hf5.mono (by simp; omega)
          replace h_a := U.below (U.alloc (U.asUn h_a) _) hB5
          replace h_b := U.below (U.alloc (U.asUn h_b) _) hB5
          replace hown := (hown.alloc _).ext hB5
          replace hE := (hE.alloc _).below hB5
          clear hB5 hf5 hv3 hf3 hl hw4
          have hw5 := hown.block.2
          go_wp2_with (fail)
          refine (rsubF _ _ _ R2 b hv5 h_b (by have := HH.out; have := HR1.out; have := HR2.out; have := HLL.out R2 (by omega); omega) (by have := HLB.out; omega) false (by rw [decide_eq_false_iff_not]; exact HH.out.2.2.1) d HH.out.2.2.2.1).mono ?_
          rintro e w6 ⟨v6, rfl, hv6, hf7, hB6⟩
          replace hf7 : Fr0 (B + 1) v6 := hf7.mono hw5
          replace hown := hown.ext hB6
          replace hE := hE.below hB6
          replace hv5 := U.below (U.asUn hv5) hB6
          clear hB6 h_a h_b
          clear hv6 hf7 hw5
          go_wp2
          go_roundw
          case rel => exact ⟨j, _, R2, _, by omega, rfl, rfl, hv5, hf6, HRR, HST, hown, hE⟩
          case measure => simp [intOf]
end Go.Proofs.YtikajmmeglookaaGreatDoor
/- The document's division by nothing; its reciprocals, and its division by a limb. -/
namespace Go.Proofs.YtikajmmeglookaaGreatDoor
open Go.RowKit
set_option linter.unusedVariables false
set_option maxHeartbeats 400000

theorem rdm_Z (w : World) (va vb : Value) (hb : Un w vb 0) :
    Calls Tryz.prog 15 #[va, vb] w fun e w' => Dz w w' e := by
  unfold Dz
  obtain ⟨Ab, cb, rfl⟩ := un_zero hb
  have hEw := Ext.refl w
  clear hb
  go_enter Tryz.func15, Tryz.ntmps15
  go_wp2
  go_ret3
  exact ⟨rfl, hEw⟩

set_option maxRecDepth 100000 in
set_option maxHeartbeats 4000000 in
theorem rrecip_D (w : World) (vb : Value) (b n q : Nat) (hb : Un w vb b) (hlb : (limbs b).length ≤ 40) (h0 : b ≠ 0) (hn : n ≤ 2500) (hq : 2 ^ n / b = q) :
    Calls Tryz.prog 21 #[vb, .int .i64 (n : Nat)] w fun e w' => (∃ u, e = .returned (.tuple #[u, .int .i64 0]) ∧ Un w' u q) ∧ Ext w w' := by
  obtain ⟨Y, hY⟩ : ∃ Y, 2 ^ n = Y := ⟨_, rfl⟩
  have hlY : (limbs Y).length ≤ 80 := len_two_le 80 (Nat.le_of_eq hY.symm) (by omega)
  have HY : Hid (1 * 2 ^ n = Y) := by rw [Hid, Nat.one_mul]; exact hY
  have HSl := Lib.hid (fun W v (h : Un W v 1) => rshl_B W v 1 n h (by omega) (lenc (len_s (by decide) (by decide)) (by decide)) Y HY.out)
  have HSc := Lib.hid (fun W v (h : Un W v Y) (g : Un W vb b) => rdm_D W v vb Y b q (Y % b) h g (by omega) (by omega) h0 (by rw [← hY]; exact hq) rfl)
  have HB := Ext.refl w
  have hl := Lib.hid (pow_lit w)
  clear hY hlY hq h0 hlb hn HY
  go_enter Tryz.func21, Tryz.ntmps21
  go_wp2_with (fail)
  refine (HSl.out _ _ hl.out).mono ?_
  rintro e w1 ⟨v1, rfl, hv1, hB⟩
  replace hb := U.below (U.alloc (U.asUn hb) _) hB
  replace HB := (HB.alloc _).below hB
  clear hB HSl hl
  go_wp2_with (fail)
  refine (HSc.out _ _ hv1 hb).mono ?_
  rintro e w2 ⟨⟨x, y, rfl, hx, hy⟩, hB⟩
  replace HB := HB.below hB
  have HF : Hid (∃ u, Ending.returned (.tuple #[x, .int .i64 0]) = .returned (.tuple #[u, .int .i64 0]) ∧ Un w2 u q) := ⟨_, rfl, hx⟩
  clear hB HSc hv1 hb hx hy
  go_wp2
  go_ret2
  exact ⟨HF.out, HB⟩
set_option maxRecDepth 100000 in
set_option maxHeartbeats 4000000 in
theorem rrecip_Z (w : World) (vb : Value) (n : Nat) (hb : Un w vb 0) (hn : n ≤ 2500) :
    Calls Tryz.prog 21 #[vb, .int .i64 (n : Nat)] w fun e w' => e = .returned (.tuple #[.slice none 0 0, .int .i64 3]) ∧ Ext w w' := by
  obtain ⟨Y, hY⟩ : ∃ Y, 1 * 2 ^ n = Y := ⟨_, rfl⟩
  have HSl := Lib.hid (fun W v (h : Un W v 1) => rshl_B W v 1 n h (by omega) (lenc (len_s (by decide) (by decide)) (by decide)) Y hY)
  have HB := Ext.refl w
  have hl := Lib.hid (pow_lit w)
  clear hY hn
  go_enter Tryz.func21, Tryz.ntmps21
  go_wp2_with (fail)
  refine (HSl.out _ _ hl.out).mono ?_
  rintro e w1 ⟨v1, rfl, hv1, hB⟩
  replace hb := U.below (U.alloc (U.asUn hb) _) hB
  replace HB := (HB.alloc _).below hB
  clear hB HSl hl hv1
  go_wp2_with (fail)
  refine (rdm_Z _ _ _ hb).mono ?_
  rintro e w2 ⟨rfl, hB⟩
  replace HB := HB.below hB
  clear hB hb
  go_wp2
  go_ret2
  exact ⟨rfl, HB⟩

set_option maxRecDepth 100000 in
set_option maxHeartbeats 4000000 in
theorem rsmall_D (w : World) (va : Value) (a m q r : Nat) (ha : Un w va a) (hla : (limbs a).length ≤ 200) (hm : m < 4294967296) (h0 : m ≠ 0) (hq : a / m = q) (hr : a % m = r) :
    Calls Tryz.prog 23 #[va, .int .u32 (m : Nat)] w fun e w' => (∃ u, e = .returned (.tuple #[u, .int .u32 (r : Nat), .int .i64 0]) ∧ Un w' u q) ∧ Ext w w' := by
  have hrb : r < 4294967296 := by rw [← hr]; exact Nat.lt_trans (Nat.mod_lt _ (by omega)) hm
  have HMk := Lib.hid (fun W v (h : U W v [m]) => rmake_B W v [m] h (by simp) m (by simp [val]))
  have HDm := Lib.hid (fun W v (h : Un W va a) (g : Un W v m) => rdm_D W va v a m q r h g (by omega) (lenc (len_s h0 hm) (by decide)) h0 hq hr)
  have HLw := Lib.hid (fun W v (h : Un W v r) => rlow_B W v r h (r : Int) true (by rw [lowN_lt (by omega)]) (lowB_lt (by omega)))
  have f1 := u32_fit hrb
  have f2 := u32_mod hrb
  have HB := Ext.refl w
  have hl : Hid (U (w.alloc (.cells #[.int .u32 (m : Nat)] 23)) (.slice (some ⟨w.heap.size, 0, none⟩) 1 1) [m]) := U_lit w [m] (by simpa using hm) (by simp)
  clear hm h0 hq hr hrb hla
  go_enter Tryz.func23, Tryz.ntmps23
  go_wp2_with (fail)
  refine (HMk.out _ _ hl.out).mono ?_
  rintro e w1 ⟨v1, rfl, hv1, hB⟩
  replace ha := U.below (U.alloc (U.asUn ha) _) hB
  replace HB := (HB.alloc _).below hB
  clear hB HMk hl
  go_wp2_with (fail)
  refine (HDm.out _ _ ha hv1).mono ?_
  rintro e w2 ⟨⟨x, y, rfl, hx, hy⟩, hB⟩
  replace HB := HB.below hB
  clear hB HDm hv1 ha
  go_wp2_with (fail)
  refine (HLw.out _ _ hy).mono ?_
  rintro e w3 ⟨rfl, hB⟩
  replace HB := HB.below hB
  have HF : Hid (∃ u, Ending.returned (.tuple #[x, .int .u32 (r : Nat), .int .i64 0]) = .returned (.tuple #[u, .int .u32 (r : Nat), .int .i64 0]) ∧ Un w3 u q) := ⟨_, rfl, U.below (U.asUn hx) hB⟩
  clear hB HLw hx hy
  go_wp2
  go_ret3
  exact ⟨HF.out, HB⟩
set_option maxRecDepth 100000 in
set_option maxHeartbeats 4000000 in
theorem rsmall_Z (w : World) (va : Value) : Calls Tryz.prog 23 #[va, .int .u32 0] w fun e w' => e = .returned (.tuple #[.slice none 0 0, .int .u32 0, .int .i64 3]) ∧ Ext w w' := by
  have HMk := Lib.hid (fun W v (h : U W v [0]) => rmake_B W v [0] h (by simp) 0 (by simp [val]))
  have HLw := Lib.hid (fun W v (h : Un W v 0) => rlow_B W v 0 h 0 true (by rw [lowN_lt (by decide)]; rfl) (lowB_lt (by decide)))
  have HB := Ext.refl w
  have hl : Hid (U (w.alloc (.cells #[.int .u32 0] 23)) (.slice (some ⟨w.heap.size, 0, none⟩) 1 1) [0]) := U_lit w [0] (by simp) (by simp)
  go_enter Tryz.func23, Tryz.ntmps23
  go_wp2_with (fail)
  refine (HMk.out _ _ hl.out).mono ?_
  rintro e w1 ⟨v1, rfl, hv1, hB⟩
  replace HB := (HB.alloc _).below hB
  clear hB HMk hl
  go_wp2_with (fail)
  refine (rdm_Z _ _ _ hv1).mono ?_
  rintro e w2 ⟨rfl, hB⟩
  replace HB := HB.below hB
  clear hB hv1
  go_wp2_with (fail)
  refine (HLw.out _ _ (Un_nil _)).mono ?_
  rintro e w3 ⟨rfl, hB⟩
  replace HB := HB.below hB
  clear hB HLw
  go_wp2
  go_ret3
  exact ⟨rfl, HB⟩
end Go.Proofs.YtikajmmeglookaaGreatDoor
/- Proved: the statement DivTells: for any two rows (of at most 40 limbs), any bits (of at most 1500) and any limb: quotients and rests by each way, reciprocals, and quotients by a limb, are the document's. No condition. -/
namespace Go.Proofs.YtikajmmeglookaaGreatDoor
open Go.RowKit
set_option linter.unusedVariables false
set_option maxHeartbeats 400000

set_option maxRecDepth 100000 in
set_option maxHeartbeats 8000000 in
theorem DivTells_walk (w : World) (r0 : Value) (xa : List Nat) (u0 : U w r0 xa) (r1 : Value) (xb : List Nat) (u1 : U w r1 xb) (x0 x1 : Nat) (hx0 : x0 < 4294967296) (hx1 : x1 < 4294967296) :
    Calls Tryz.prog 3 #[r0, r1, .agg #[.int .u32 (x0 : Nat), .int .u32 (x1 : Nat)]] w fun e w' => e = .returned (.bool true) ∧ Ext w w' := by
  have HB := Ext.refl w
  obtain ⟨a, da⟩ : ∃ a, cutN xa 40 = a := ⟨_, rfl⟩
  have ta : (limbs a).length ≤ 40 := by rw [← da]; exact len_of (cut_lt xa 40 u0.lim)
  have hMd_a := Lib.hid (fun W (h : U W r0 xa) => made_B W r0 xa 40 h (by decide) (by decide) a da)
  obtain ⟨b, db⟩ : ∃ b, cutN xb 40 = b := ⟨_, rfl⟩
  have tb : (limbs b).length ≤ 40 := by rw [← db]; exact len_of (cut_lt xb 40 u1.lim)
  have hMd_b := Lib.hid (fun W (h : U W r1 xb) => made_B W r1 xb 40 h (by decide) (by decide) b db)
  clear da db
  obtain ⟨n, hn⟩ : ∃ n, x0 % 1501 = n := ⟨_, rfl⟩
  have hnb : n ≤ 1500 := by omega
  have hni : (x0 : Int) % 1501 = (n : Int) := by omega
  have hnt : (x0 : Int).tmod 1501 = (n : Int) := by rw [Int.tmod_eq_emod_of_nonneg (Int.natCast_nonneg _)]; exact hni
  have HBX := (Ext.refl w).alloc (.cells #[.int .u32 (x0 : Nat), .int .u32 (x1 : Nat)] 24)
  have HX : Bx2 (w.alloc (.cells #[.int .u32 (x0 : Nat), .int .u32 (x1 : Nat)] 24)) w.heap.size (.int .u32 (x0 : Nat)) (.int .u32 (x1 : Nat)) := ⟨by simp, by go_simp, by go_simp⟩
  replace u0 := u0.below HBX
  replace u1 := u1.below HBX
  replace HB := HBX
  clear HBX hn
  by_cases h0b : b = 0
  · subst h0b
    have LL := Lib.hid (And.intro ta hnb)
    clear ta tb hnb
    by_cases hxz : x1 = 0
    · subst hxz
      have HX2 : Bx2 (w.alloc (.cells #[.int .u32 (x0 : Nat), .int .u32 0] 24)) w.heap.size (.int .u32 (x0 : Nat)) (.int .u32 0) := HX
      replace HX := HX2
      clear HX2 hx0 hx1
      go_enter Tryz.func3, Tryz.ntmps3
      go_wp2_with (fail)
      refine (dhead_calls _).mono ?_
      rintro e w1 ⟨rfl, hB⟩
      replace u0 := U.below u0 hB
      replace u1 := U.below u1 hB
      replace HB := HB.below hB
      replace HX := HX.ext hB
      clear hB
      go_wp2_with (fail)
      refine (hMd_a.out _ u0).mono ?_
      rintro e w2 ⟨v_a, rfl, h_a, hB⟩
      replace u1 := U.below u1 hB
      replace HB := HB.below hB
      replace HX := HX.ext hB
      clear hB
      clear u0
      go_wp2_with (fail)
      refine (hMd_b.out _ u1).mono ?_
      rintro e w3 ⟨v_b, rfl, h_b, hB⟩
      replace h_a := U.below (U.asUn h_a) hB
      replace HB := HB.below hB
      replace HX := HX.ext hB
      clear hB
      clear u1
      obtain ⟨Ab, cb, rfl⟩ := un_zero h_b
      obtain ⟨b0, b1, b2⟩ := id HX
      go_wp2_with (fail)
      refine (rdm_Z _ _ _ h_b).mono ?_
      rintro e w4 ⟨rfl, hB⟩
      replace h_a := U.below (U.asUn h_a) hB
      replace h_b := U.below (U.asUn h_b) hB
      replace HB := HB.below hB
      replace HX := HX.ext hB
      clear hB
      clear b0 b1 b2
      go_wp2_with (fail)
      refine (divmod_Z _ _ _ a h_a h_b (by have := LL.out; omega)).mono ?_
      rintro e w5 ⟨rfl, hB⟩
      replace h_a := U.below (U.asUn h_a) hB
      replace h_b := U.below (U.asUn h_b) hB
      replace HB := HB.below hB
      replace HX := HX.ext hB
      clear hB
      go_wp2_with (fail)
      refine (newton_Z _ _ _ h_b).mono ?_
      rintro e w6 ⟨rfl, hB⟩
      replace h_a := U.below (U.asUn h_a) hB
      replace h_b := U.below (U.asUn h_b) hB
      replace HB := HB.below hB
      replace HX := HX.ext hB
      clear hB
      go_wp2_with (fail)
      refine (ziegler_Z _ _ _ h_b).mono ?_
      rintro e w7 ⟨rfl, hB⟩
      replace h_a := U.below (U.asUn h_a) hB
      replace h_b := U.below (U.asUn h_b) hB
      replace HB := HB.below hB
      replace HX := HX.ext hB
      clear hB
      go_wp2_with (fail)
      refine (sameT _ _ _ 0 (Un_nil _) (Un_nil _)).mono ?_
      rintro e w8 ⟨rfl, hB⟩
      replace h_a := U.below (U.asUn h_a) hB
      replace h_b := U.below (U.asUn h_b) hB
      replace HB := HB.below hB
      replace HX := HX.ext hB
      clear hB
      go_wp2_with (fail)
      refine (sameT _ _ _ 0 (Un_nil _) (Un_nil _)).mono ?_
      rintro e w9 ⟨rfl, hB⟩
      replace h_a := U.below (U.asUn h_a) hB
      replace h_b := U.below (U.asUn h_b) hB
      replace HB := HB.below hB
      replace HX := HX.ext hB
      clear hB
      go_wp2_with (fail)
      refine (sameT _ _ _ 0 (Un_nil _) (Un_nil _)).mono ?_
      rintro e w10 ⟨rfl, hB⟩
      replace h_a := U.below (U.asUn h_a) hB
      replace h_b := U.below (U.asUn h_b) hB
      replace HB := HB.below hB
      replace HX := HX.ext hB
      clear hB
      go_wp2_with (fail)
      refine (sameT _ _ _ 0 (Un_nil _) (Un_nil _)).mono ?_
      rintro e w11 ⟨rfl, hB⟩
      replace h_a := U.below (U.asUn h_a) hB
      replace h_b := U.below (U.asUn h_b) hB
      replace HB := HB.below hB
      replace HX := HX.ext hB
      clear hB
      go_wp2_with (fail)
      refine (sameT _ _ _ 0 (Un_nil _) (Un_nil _)).mono ?_
      rintro e w12 ⟨rfl, hB⟩
      replace h_a := U.below (U.asUn h_a) hB
      replace h_b := U.below (U.asUn h_b) hB
      replace HB := HB.below hB
      replace HX := HX.ext hB
      clear hB
      go_wp2_with (fail)
      refine (sameT _ _ _ 0 (Un_nil _) (Un_nil _)).mono ?_
      rintro e w13 ⟨rfl, hB⟩
      replace h_a := U.below (U.asUn h_a) hB
      replace h_b := U.below (U.asUn h_b) hB
      replace HB := HB.below hB
      replace HX := HX.ext hB
      clear hB
      go_wp2_with (fail)
      refine (recip_Z _ _ n h_b).mono ?_
      rintro e w14 ⟨rfl, hB⟩
      replace h_a := U.below (U.asUn h_a) hB
      replace h_b := U.below (U.asUn h_b) hB
      replace HB := HB.below hB
      replace HX := HX.ext hB
      clear hB
      go_wp2_with (fail)
      refine (rrecip_Z _ _ n h_b (by have := LL.out; omega)).mono ?_
      rintro e w15 ⟨rfl, hB⟩
      clear h_b
      replace h_a := U.below (U.asUn h_a) hB
      replace HB := HB.below hB
      replace HX := HX.ext hB
      clear hB
      obtain ⟨b0, b1, b2⟩ := id HX
      go_wp2_with (fail)
      refine (small_zero _ _).mono ?_
      rintro e w16 ⟨rfl, hB⟩
      replace h_a := U.below (U.asUn h_a) hB
      replace HB := HB.below hB
      replace HX := HX.ext hB
      clear hB
      clear b0 b1 b2
      obtain ⟨b0, b1, b2⟩ := id HX
      go_wp2_with (fail)
      refine (rsmall_Z _ _).mono ?_
      rintro e w17 ⟨rfl, hB⟩
      clear h_a
      replace HB := HB.below hB
      replace HX := HX.ext hB
      clear hB
      clear b0 b1 b2
      go_wp2_with (fail)
      refine (sameT _ _ _ 0 (Un_nil _) (Un_nil _)).mono ?_
      rintro e w18 ⟨rfl, hB⟩
      replace HB := HB.below hB
      replace HX := HX.ext hB
      clear hB
      go_wp2_with (fail)
      refine (sameT _ _ _ 0 (Un_nil _) (Un_nil _)).mono ?_
      rintro e w19 ⟨rfl, hB⟩
      replace HB := HB.below hB
      replace HX := HX.ext hB
      clear hB
      go_wp2
      go_ret
      exact ⟨rfl, HB⟩
    · obtain ⟨c, hc⟩ : ∃ c, a / x1 = c := ⟨_, rfl⟩
      obtain ⟨d, hd⟩ : ∃ d, a % x1 = d := ⟨_, rfl⟩
      have HC := Lib.hid (And.intro hc hd)
      have HX1 := Lib.hid (And.intro hx1 hxz)
      clear hc hd hx1 hxz hx0
      go_enter Tryz.func3, Tryz.ntmps3
      go_wp2_with (fail)
      refine (dhead_calls _).mono ?_
      rintro e w1 ⟨rfl, hB⟩
      replace u0 := U.below u0 hB
      replace u1 := U.below u1 hB
      replace HB := HB.below hB
      replace HX := HX.ext hB
      clear hB
      go_wp2_with (fail)
      refine (hMd_a.out _ u0).mono ?_
      rintro e w2 ⟨v_a, rfl, h_a, hB⟩
      replace u1 := U.below u1 hB
      replace HB := HB.below hB
      replace HX := HX.ext hB
      clear hB
      clear u0
      go_wp2_with (fail)
      refine (hMd_b.out _ u1).mono ?_
      rintro e w3 ⟨v_b, rfl, h_b, hB⟩
      replace h_a := U.below (U.asUn h_a) hB
      replace HB := HB.below hB
      replace HX := HX.ext hB
      clear hB
      clear u1
      obtain ⟨Ab, cb, rfl⟩ := un_zero h_b
      obtain ⟨b0, b1, b2⟩ := id HX
      go_wp2_with (fail)
      refine (rdm_Z _ _ _ h_b).mono ?_
      rintro e w4 ⟨rfl, hB⟩
      replace h_a := U.below (U.asUn h_a) hB
      replace h_b := U.below (U.asUn h_b) hB
      replace HB := HB.below hB
      replace HX := HX.ext hB
      clear hB
      clear b0 b1 b2
      go_wp2_with (fail)
      refine (divmod_Z _ _ _ a h_a h_b (by have := LL.out; omega)).mono ?_
      rintro e w5 ⟨rfl, hB⟩
      replace h_a := U.below (U.asUn h_a) hB
      replace h_b := U.below (U.asUn h_b) hB
      replace HB := HB.below hB
      replace HX := HX.ext hB
      clear hB
      go_wp2_with (fail)
      refine (newton_Z _ _ _ h_b).mono ?_
      rintro e w6 ⟨rfl, hB⟩
      replace h_a := U.below (U.asUn h_a) hB
      replace h_b := U.below (U.asUn h_b) hB
      replace HB := HB.below hB
      replace HX := HX.ext hB
      clear hB
      go_wp2_with (fail)
      refine (ziegler_Z _ _ _ h_b).mono ?_
      rintro e w7 ⟨rfl, hB⟩
      replace h_a := U.below (U.asUn h_a) hB
      replace h_b := U.below (U.asUn h_b) hB
      replace HB := HB.below hB
      replace HX := HX.ext hB
      clear hB
      go_wp2_with (fail)
      refine (sameT _ _ _ 0 (Un_nil _) (Un_nil _)).mono ?_
      rintro e w8 ⟨rfl, hB⟩
      replace h_a := U.below (U.asUn h_a) hB
      replace h_b := U.below (U.asUn h_b) hB
      replace HB := HB.below hB
      replace HX := HX.ext hB
      clear hB
      go_wp2_with (fail)
      refine (sameT _ _ _ 0 (Un_nil _) (Un_nil _)).mono ?_
      rintro e w9 ⟨rfl, hB⟩
      replace h_a := U.below (U.asUn h_a) hB
      replace h_b := U.below (U.asUn h_b) hB
      replace HB := HB.below hB
      replace HX := HX.ext hB
      clear hB
      go_wp2_with (fail)
      refine (sameT _ _ _ 0 (Un_nil _) (Un_nil _)).mono ?_
      rintro e w10 ⟨rfl, hB⟩
      replace h_a := U.below (U.asUn h_a) hB
      replace h_b := U.below (U.asUn h_b) hB
      replace HB := HB.below hB
      replace HX := HX.ext hB
      clear hB
      go_wp2_with (fail)
      refine (sameT _ _ _ 0 (Un_nil _) (Un_nil _)).mono ?_
      rintro e w11 ⟨rfl, hB⟩
      replace h_a := U.below (U.asUn h_a) hB
      replace h_b := U.below (U.asUn h_b) hB
      replace HB := HB.below hB
      replace HX := HX.ext hB
      clear hB
      go_wp2_with (fail)
      refine (sameT _ _ _ 0 (Un_nil _) (Un_nil _)).mono ?_
      rintro e w12 ⟨rfl, hB⟩
      replace h_a := U.below (U.asUn h_a) hB
      replace h_b := U.below (U.asUn h_b) hB
      replace HB := HB.below hB
      replace HX := HX.ext hB
      clear hB
      go_wp2_with (fail)
      refine (sameT _ _ _ 0 (Un_nil _) (Un_nil _)).mono ?_
      rintro e w13 ⟨rfl, hB⟩
      replace h_a := U.below (U.asUn h_a) hB
      replace h_b := U.below (U.asUn h_b) hB
      replace HB := HB.below hB
      replace HX := HX.ext hB
      clear hB
      go_wp2_with (fail)
      refine (recip_Z _ _ n h_b).mono ?_
      rintro e w14 ⟨rfl, hB⟩
      replace h_a := U.below (U.asUn h_a) hB
      replace h_b := U.below (U.asUn h_b) hB
      replace HB := HB.below hB
      replace HX := HX.ext hB
      clear hB
      go_wp2_with (fail)
      refine (rrecip_Z _ _ n h_b (by have := LL.out; omega)).mono ?_
      rintro e w15 ⟨rfl, hB⟩
      clear h_b
      replace h_a := U.below (U.asUn h_a) hB
      replace HB := HB.below hB
      replace HX := HX.ext hB
      clear hB
      obtain ⟨b0, b1, b2⟩ := id HX
      go_wp2_with (fail)
      refine (small_calls _ _ a x1 h_a (by have := LL.out; omega) HX1.out.1 HX1.out.2 c d HC.out.1 HC.out.2).mono ?_
      rintro e w16 ⟨⟨v_c, rfl, h_c⟩, hB⟩
      replace h_a := U.below (U.asUn h_a) hB
      replace HB := HB.below hB
      replace HX := HX.ext hB
      clear hB
      clear b0 b1 b2
      obtain ⟨b0, b1, b2⟩ := id HX
      go_wp2_with (fail)
      refine (rsmall_D _ _ a x1 c d h_a (by have := LL.out; omega) HX1.out.1 HX1.out.2 HC.out.1 HC.out.2).mono ?_
      rintro e w17 ⟨⟨v_d, rfl, h_d⟩, hB⟩
      clear h_a
      replace h_c := U.below (U.asUn h_c) hB
      replace HB := HB.below hB
      replace HX := HX.ext hB
      clear hB
      clear b0 b1 b2
      go_wp2_with (fail)
      refine (sameT _ _ _ 0 (Un_nil _) (Un_nil _)).mono ?_
      rintro e w18 ⟨rfl, hB⟩
      replace h_c := U.below (U.asUn h_c) hB
      replace h_d := U.below (U.asUn h_d) hB
      replace HB := HB.below hB
      replace HX := HX.ext hB
      clear hB
      go_wp2_with (fail)
      refine (sameT _ _ _ _ h_c h_d).mono ?_
      rintro e w19 ⟨rfl, hB⟩
      clear h_c
      clear h_d
      replace HB := HB.below hB
      replace HX := HX.ext hB
      clear hB
      go_wp2
      go_ret
      exact ⟨rfl, HB⟩
  · obtain ⟨q, hq⟩ : ∃ q, a / b = q := ⟨_, rfl⟩
    obtain ⟨r, hr⟩ : ∃ r, a % b = r := ⟨_, rfl⟩
    obtain ⟨i, hi⟩ : ∃ i, 2 ^ n / b = i := ⟨_, rfl⟩
    have HQ := Lib.hid (And.intro hq hr)
    have HI := Lib.hid hi
    have LL := Lib.hid (And.intro ta (And.intro tb hnb))
    have H0 := Lib.hid h0b
    obtain ⟨Lb, hLb⟩ : ∃ Lb, (limbs b).length = Lb := ⟨_, rfl⟩
    have hL0b : ((Lb : Int) == 0) = false := by rw [beq_eq_false_iff_ne]; have := limbs_nz h0b; omega
    have hL1b : ¬ Lb = 0 := by have := limbs_nz h0b; omega
    clear hq hr hi ta tb h0b hnb
    by_cases hxz : x1 = 0
    · subst hxz
      have HX2 : Bx2 (w.alloc (.cells #[.int .u32 (x0 : Nat), .int .u32 0] 24)) w.heap.size (.int .u32 (x0 : Nat)) (.int .u32 0) := HX
      replace HX := HX2
      clear HX2 hx0 hx1
      go_enter Tryz.func3, Tryz.ntmps3
      go_wp2_with (fail)
      refine (dhead_calls _).mono ?_
      rintro e w1 ⟨rfl, hB⟩
      replace u0 := U.below u0 hB
      replace u1 := U.below u1 hB
      replace HB := HB.below hB
      replace HX := HX.ext hB
      clear hB
      go_wp2_with (fail)
      refine (hMd_a.out _ u0).mono ?_
      rintro e w2 ⟨v_a, rfl, h_a, hB⟩
      replace u1 := U.below u1 hB
      replace HB := HB.below hB
      replace HX := HX.ext hB
      clear hB
      clear u0
      go_wp2_with (fail)
      refine (hMd_b.out _ u1).mono ?_
      rintro e w3 ⟨v_b, rfl, h_b, hB⟩
      replace h_a := U.below (U.asUn h_a) hB
      replace HB := HB.below hB
      replace HX := HX.ext hB
      clear hB
      clear u1
      obtain ⟨Ab, cb, rfl, hcb⟩ := U.shape (U.asUn h_b)
      rw [hLb] at h_b ⊢
      clear hcb
      obtain ⟨b0, b1, b2⟩ := id HX
      go_wp2_with (fail)
      refine (rdm_D _ _ _ a b q r h_a h_b (by have := LL.out; omega) (by have := LL.out; omega) H0.out HQ.out.1 HQ.out.2).mono ?_
      rintro e w4 ⟨⟨v_q, v_r, rfl, h_q, h_r⟩, hB⟩
      replace h_a := U.below (U.asUn h_a) hB
      replace h_b := U.below (U.asUn h_b) hB
      replace HB := HB.below hB
      replace HX := HX.ext hB
      clear hB
      clear b0 b1 b2
      go_wp2_with (fail)
      refine (divmod_D _ _ _ a b q r h_a h_b (by have := LL.out; omega) (by have := LL.out; omega) H0.out HQ.out.1 HQ.out.2).mono ?_
      rintro e w5 ⟨⟨v_s, v_t, rfl, h_s, h_t⟩, hB⟩
      replace h_a := U.below (U.asUn h_a) hB
      replace h_b := U.below (U.asUn h_b) hB
      replace h_q := U.below (U.asUn h_q) hB
      replace h_r := U.below (U.asUn h_r) hB
      replace HB := HB.below hB
      replace HX := HX.ext hB
      clear hB
      go_wp2_with (fail)
      refine (newton_D _ _ _ a b q r h_a h_b (by have := LL.out; omega) (by have := LL.out; omega) H0.out HQ.out.1 HQ.out.2).mono ?_
      rintro e w6 ⟨⟨v_u, v_v, rfl, h_u, h_v⟩, hB⟩
      replace h_a := U.below (U.asUn h_a) hB
      replace h_b := U.below (U.asUn h_b) hB
      replace h_q := U.below (U.asUn h_q) hB
      replace h_r := U.below (U.asUn h_r) hB
      replace h_s := U.below (U.asUn h_s) hB
      replace h_t := U.below (U.asUn h_t) hB
      replace HB := HB.below hB
      replace HX := HX.ext hB
      clear hB
      go_wp2_with (fail)
      refine (ziegler_D _ _ _ a b q r h_a h_b (by have := LL.out; omega) (by have := LL.out; omega) H0.out HQ.out.1 HQ.out.2).mono ?_
      rintro e w7 ⟨⟨v_m, v_o, rfl, h_m, h_o⟩, hB⟩
      replace h_a := U.below (U.asUn h_a) hB
      replace h_b := U.below (U.asUn h_b) hB
      replace h_q := U.below (U.asUn h_q) hB
      replace h_r := U.below (U.asUn h_r) hB
      replace h_s := U.below (U.asUn h_s) hB
      replace h_t := U.below (U.asUn h_t) hB
      replace h_u := U.below (U.asUn h_u) hB
      replace h_v := U.below (U.asUn h_v) hB
      replace HB := HB.below hB
      replace HX := HX.ext hB
      clear hB
      go_wp2_with (fail)
      refine (sameT _ _ _ _ h_q h_s).mono ?_
      rintro e w8 ⟨rfl, hB⟩
      clear h_s
      replace h_a := U.below (U.asUn h_a) hB
      replace h_b := U.below (U.asUn h_b) hB
      replace h_q := U.below (U.asUn h_q) hB
      replace h_r := U.below (U.asUn h_r) hB
      replace h_t := U.below (U.asUn h_t) hB
      replace h_u := U.below (U.asUn h_u) hB
      replace h_v := U.below (U.asUn h_v) hB
      replace h_m := U.below (U.asUn h_m) hB
      replace h_o := U.below (U.asUn h_o) hB
      replace HB := HB.below hB
      replace HX := HX.ext hB
      clear hB
      go_wp2_with (fail)
      refine (sameT _ _ _ _ h_q h_u).mono ?_
      rintro e w9 ⟨rfl, hB⟩
      clear h_u
      replace h_a := U.below (U.asUn h_a) hB
      replace h_b := U.below (U.asUn h_b) hB
      replace h_q := U.below (U.asUn h_q) hB
      replace h_r := U.below (U.asUn h_r) hB
      replace h_t := U.below (U.asUn h_t) hB
      replace h_v := U.below (U.asUn h_v) hB
      replace h_m := U.below (U.asUn h_m) hB
      replace h_o := U.below (U.asUn h_o) hB
      replace HB := HB.below hB
      replace HX := HX.ext hB
      clear hB
      go_wp2_with (fail)
      refine (sameT _ _ _ _ h_q h_m).mono ?_
      rintro e w10 ⟨rfl, hB⟩
      clear h_m
      clear h_q
      replace h_a := U.below (U.asUn h_a) hB
      replace h_b := U.below (U.asUn h_b) hB
      replace h_r := U.below (U.asUn h_r) hB
      replace h_t := U.below (U.asUn h_t) hB
      replace h_v := U.below (U.asUn h_v) hB
      replace h_o := U.below (U.asUn h_o) hB
      replace HB := HB.below hB
      replace HX := HX.ext hB
      clear hB
      go_wp2_with (fail)
      refine (sameT _ _ _ _ h_r h_t).mono ?_
      rintro e w11 ⟨rfl, hB⟩
      clear h_t
      replace h_a := U.below (U.asUn h_a) hB
      replace h_b := U.below (U.asUn h_b) hB
      replace h_r := U.below (U.asUn h_r) hB
      replace h_v := U.below (U.asUn h_v) hB
      replace h_o := U.below (U.asUn h_o) hB
      replace HB := HB.below hB
      replace HX := HX.ext hB
      clear hB
      go_wp2_with (fail)
      refine (sameT _ _ _ _ h_r h_v).mono ?_
      rintro e w12 ⟨rfl, hB⟩
      clear h_v
      replace h_a := U.below (U.asUn h_a) hB
      replace h_b := U.below (U.asUn h_b) hB
      replace h_r := U.below (U.asUn h_r) hB
      replace h_o := U.below (U.asUn h_o) hB
      replace HB := HB.below hB
      replace HX := HX.ext hB
      clear hB
      go_wp2_with (fail)
      refine (sameT _ _ _ _ h_r h_o).mono ?_
      rintro e w13 ⟨rfl, hB⟩
      clear h_o
      clear h_r
      replace h_a := U.below (U.asUn h_a) hB
      replace h_b := U.below (U.asUn h_b) hB
      replace HB := HB.below hB
      replace HX := HX.ext hB
      clear hB
      go_wp2_with (fail)
      refine (recip_D _ _ b n i h_b (by have := LL.out; omega) H0.out (by have := LL.out; omega) HI.out).mono ?_
      rintro e w14 ⟨⟨v_i, rfl, h_i⟩, hB⟩
      replace h_a := U.below (U.asUn h_a) hB
      replace h_b := U.below (U.asUn h_b) hB
      replace HB := HB.below hB
      replace HX := HX.ext hB
      clear hB
      go_wp2_with (fail)
      refine (rrecip_D _ _ b n i h_b (by have := LL.out; omega) H0.out (by have := LL.out; omega) HI.out).mono ?_
      rintro e w15 ⟨⟨v_k, rfl, h_k⟩, hB⟩
      clear h_b
      replace h_a := U.below (U.asUn h_a) hB
      replace h_i := U.below (U.asUn h_i) hB
      replace HB := HB.below hB
      replace HX := HX.ext hB
      clear hB
      obtain ⟨b0, b1, b2⟩ := id HX
      go_wp2_with (fail)
      refine (small_zero _ _).mono ?_
      rintro e w16 ⟨rfl, hB⟩
      replace h_a := U.below (U.asUn h_a) hB
      replace h_i := U.below (U.asUn h_i) hB
      replace h_k := U.below (U.asUn h_k) hB
      replace HB := HB.below hB
      replace HX := HX.ext hB
      clear hB
      clear b0 b1 b2
      obtain ⟨b0, b1, b2⟩ := id HX
      go_wp2_with (fail)
      refine (rsmall_Z _ _).mono ?_
      rintro e w17 ⟨rfl, hB⟩
      clear h_a
      replace h_i := U.below (U.asUn h_i) hB
      replace h_k := U.below (U.asUn h_k) hB
      replace HB := HB.below hB
      replace HX := HX.ext hB
      clear hB
      clear b0 b1 b2
      go_wp2_with (fail)
      refine (sameT _ _ _ _ h_i h_k).mono ?_
      rintro e w18 ⟨rfl, hB⟩
      clear h_i
      clear h_k
      replace HB := HB.below hB
      replace HX := HX.ext hB
      clear hB
      go_wp2_with (fail)
      refine (sameT _ _ _ 0 (Un_nil _) (Un_nil _)).mono ?_
      rintro e w19 ⟨rfl, hB⟩
      replace HB := HB.below hB
      replace HX := HX.ext hB
      clear hB
      go_wp2
      go_ret
      exact ⟨rfl, HB⟩
    · obtain ⟨c, hc⟩ : ∃ c, a / x1 = c := ⟨_, rfl⟩
      obtain ⟨d, hd⟩ : ∃ d, a % x1 = d := ⟨_, rfl⟩
      have HC := Lib.hid (And.intro hc hd)
      have HX1 := Lib.hid (And.intro hx1 hxz)
      clear hc hd hx1 hxz hx0
      go_enter Tryz.func3, Tryz.ntmps3
      go_wp2_with (fail)
      refine (dhead_calls _).mono ?_
      rintro e w1 ⟨rfl, hB⟩
      replace u0 := U.below u0 hB
      replace u1 := U.below u1 hB
      replace HB := HB.below hB
      replace HX := HX.ext hB
      clear hB
      go_wp2_with (fail)
      refine (hMd_a.out _ u0).mono ?_
      rintro e w2 ⟨v_a, rfl, h_a, hB⟩
      replace u1 := U.below u1 hB
      replace HB := HB.below hB
      replace HX := HX.ext hB
      clear hB
      clear u0
      go_wp2_with (fail)
      refine (hMd_b.out _ u1).mono ?_
      rintro e w3 ⟨v_b, rfl, h_b, hB⟩
      replace h_a := U.below (U.asUn h_a) hB
      replace HB := HB.below hB
      replace HX := HX.ext hB
      clear hB
      clear u1
      obtain ⟨Ab, cb, rfl, hcb⟩ := U.shape (U.asUn h_b)
      rw [hLb] at h_b ⊢
      clear hcb
      obtain ⟨b0, b1, b2⟩ := id HX
      go_wp2_with (fail)
      refine (rdm_D _ _ _ a b q r h_a h_b (by have := LL.out; omega) (by have := LL.out; omega) H0.out HQ.out.1 HQ.out.2).mono ?_
      rintro e w4 ⟨⟨v_q, v_r, rfl, h_q, h_r⟩, hB⟩
      replace h_a := U.below (U.asUn h_a) hB
      replace h_b := U.below (U.asUn h_b) hB
      replace HB := HB.below hB
      replace HX := HX.ext hB
      clear hB
      clear b0 b1 b2
      go_wp2_with (fail)
      refine (divmod_D _ _ _ a b q r h_a h_b (by have := LL.out; omega) (by have := LL.out; omega) H0.out HQ.out.1 HQ.out.2).mono ?_
      rintro e w5 ⟨⟨v_s, v_t, rfl, h_s, h_t⟩, hB⟩
      replace h_a := U.below (U.asUn h_a) hB
      replace h_b := U.below (U.asUn h_b) hB
      replace h_q := U.below (U.asUn h_q) hB
      replace h_r := U.below (U.asUn h_r) hB
      replace HB := HB.below hB
      replace HX := HX.ext hB
      clear hB
      go_wp2_with (fail)
      refine (newton_D _ _ _ a b q r h_a h_b (by have := LL.out; omega) (by have := LL.out; omega) H0.out HQ.out.1 HQ.out.2).mono ?_
      rintro e w6 ⟨⟨v_u, v_v, rfl, h_u, h_v⟩, hB⟩
      replace h_a := U.below (U.asUn h_a) hB
      replace h_b := U.below (U.asUn h_b) hB
      replace h_q := U.below (U.asUn h_q) hB
      replace h_r := U.below (U.asUn h_r) hB
      replace h_s := U.below (U.asUn h_s) hB
      replace h_t := U.below (U.asUn h_t) hB
      replace HB := HB.below hB
      replace HX := HX.ext hB
      clear hB
      go_wp2_with (fail)
      refine (ziegler_D _ _ _ a b q r h_a h_b (by have := LL.out; omega) (by have := LL.out; omega) H0.out HQ.out.1 HQ.out.2).mono ?_
      rintro e w7 ⟨⟨v_m, v_o, rfl, h_m, h_o⟩, hB⟩
      replace h_a := U.below (U.asUn h_a) hB
      replace h_b := U.below (U.asUn h_b) hB
      replace h_q := U.below (U.asUn h_q) hB
      replace h_r := U.below (U.asUn h_r) hB
      replace h_s := U.below (U.asUn h_s) hB
      replace h_t := U.below (U.asUn h_t) hB
      replace h_u := U.below (U.asUn h_u) hB
      replace h_v := U.below (U.asUn h_v) hB
      replace HB := HB.below hB
      replace HX := HX.ext hB
      clear hB
      go_wp2_with (fail)
      refine (sameT _ _ _ _ h_q h_s).mono ?_
      rintro e w8 ⟨rfl, hB⟩
      clear h_s
      replace h_a := U.below (U.asUn h_a) hB
      replace h_b := U.below (U.asUn h_b) hB
      replace h_q := U.below (U.asUn h_q) hB
      replace h_r := U.below (U.asUn h_r) hB
      replace h_t := U.below (U.asUn h_t) hB
      replace h_u := U.below (U.asUn h_u) hB
      replace h_v := U.below (U.asUn h_v) hB
      replace h_m := U.below (U.asUn h_m) hB
      replace h_o := U.below (U.asUn h_o) hB
      replace HB := HB.below hB
      replace HX := HX.ext hB
      clear hB
      go_wp2_with (fail)
      refine (sameT _ _ _ _ h_q h_u).mono ?_
      rintro e w9 ⟨rfl, hB⟩
      clear h_u
      replace h_a := U.below (U.asUn h_a) hB
      replace h_b := U.below (U.asUn h_b) hB
      replace h_q := U.below (U.asUn h_q) hB
      replace h_r := U.below (U.asUn h_r) hB
      replace h_t := U.below (U.asUn h_t) hB
      replace h_v := U.below (U.asUn h_v) hB
      replace h_m := U.below (U.asUn h_m) hB
      replace h_o := U.below (U.asUn h_o) hB
      replace HB := HB.below hB
      replace HX := HX.ext hB
      clear hB
      go_wp2_with (fail)
      refine (sameT _ _ _ _ h_q h_m).mono ?_
      rintro e w10 ⟨rfl, hB⟩
      clear h_m
      clear h_q
      replace h_a := U.below (U.asUn h_a) hB
      replace h_b := U.below (U.asUn h_b) hB
      replace h_r := U.below (U.asUn h_r) hB
      replace h_t := U.below (U.asUn h_t) hB
      replace h_v := U.below (U.asUn h_v) hB
      replace h_o := U.below (U.asUn h_o) hB
      replace HB := HB.below hB
      replace HX := HX.ext hB
      clear hB
      go_wp2_with (fail)
      refine (sameT _ _ _ _ h_r h_t).mono ?_
      rintro e w11 ⟨rfl, hB⟩
      clear h_t
      replace h_a := U.below (U.asUn h_a) hB
      replace h_b := U.below (U.asUn h_b) hB
      replace h_r := U.below (U.asUn h_r) hB
      replace h_v := U.below (U.asUn h_v) hB
      replace h_o := U.below (U.asUn h_o) hB
      replace HB := HB.below hB
      replace HX := HX.ext hB
      clear hB
      go_wp2_with (fail)
      refine (sameT _ _ _ _ h_r h_v).mono ?_
      rintro e w12 ⟨rfl, hB⟩
      clear h_v
      replace h_a := U.below (U.asUn h_a) hB
      replace h_b := U.below (U.asUn h_b) hB
      replace h_r := U.below (U.asUn h_r) hB
      replace h_o := U.below (U.asUn h_o) hB
      replace HB := HB.below hB
      replace HX := HX.ext hB
      clear hB
      go_wp2_with (fail)
      refine (sameT _ _ _ _ h_r h_o).mono ?_
      rintro e w13 ⟨rfl, hB⟩
      clear h_o
      clear h_r
      replace h_a := U.below (U.asUn h_a) hB
      replace h_b := U.below (U.asUn h_b) hB
      replace HB := HB.below hB
      replace HX := HX.ext hB
      clear hB
      go_wp2_with (fail)
      refine (recip_D _ _ b n i h_b (by have := LL.out; omega) H0.out (by have := LL.out; omega) HI.out).mono ?_
      rintro e w14 ⟨⟨v_i, rfl, h_i⟩, hB⟩
      replace h_a := U.below (U.asUn h_a) hB
      replace h_b := U.below (U.asUn h_b) hB
      replace HB := HB.below hB
      replace HX := HX.ext hB
      clear hB
      go_wp2_with (fail)
      refine (rrecip_D _ _ b n i h_b (by have := LL.out; omega) H0.out (by have := LL.out; omega) HI.out).mono ?_
      rintro e w15 ⟨⟨v_k, rfl, h_k⟩, hB⟩
      clear h_b
      replace h_a := U.below (U.asUn h_a) hB
      replace h_i := U.below (U.asUn h_i) hB
      replace HB := HB.below hB
      replace HX := HX.ext hB
      clear hB
      obtain ⟨b0, b1, b2⟩ := id HX
      go_wp2_with (fail)
      refine (small_calls _ _ a x1 h_a (by have := LL.out; omega) HX1.out.1 HX1.out.2 c d HC.out.1 HC.out.2).mono ?_
      rintro e w16 ⟨⟨v_c, rfl, h_c⟩, hB⟩
      replace h_a := U.below (U.asUn h_a) hB
      replace h_i := U.below (U.asUn h_i) hB
      replace h_k := U.below (U.asUn h_k) hB
      replace HB := HB.below hB
      replace HX := HX.ext hB
      clear hB
      clear b0 b1 b2
      obtain ⟨b0, b1, b2⟩ := id HX
      go_wp2_with (fail)
      refine (rsmall_D _ _ a x1 c d h_a (by have := LL.out; omega) HX1.out.1 HX1.out.2 HC.out.1 HC.out.2).mono ?_
      rintro e w17 ⟨⟨v_d, rfl, h_d⟩, hB⟩
      clear h_a
      replace h_i := U.below (U.asUn h_i) hB
      replace h_k := U.below (U.asUn h_k) hB
      replace h_c := U.below (U.asUn h_c) hB
      replace HB := HB.below hB
      replace HX := HX.ext hB
      clear hB
      clear b0 b1 b2
      go_wp2_with (fail)
      refine (sameT _ _ _ _ h_i h_k).mono ?_
      rintro e w18 ⟨rfl, hB⟩
      clear h_i
      clear h_k
      replace h_c := U.below (U.asUn h_c) hB
      replace h_d := U.below (U.asUn h_d) hB
      replace HB := HB.below hB
      replace HX := HX.ext hB
      clear hB
      go_wp2_with (fail)
      refine (sameT _ _ _ _ h_c h_d).mono ?_
      rintro e w19 ⟨rfl, hB⟩
      clear h_c
      clear h_d
      replace HB := HB.below hB
      replace HX := HX.ext hB
      clear hB
      go_wp2
      go_ret
      exact ⟨rfl, HB⟩
end Go.Proofs.YtikajmmeglookaaGreatDoor
/- Proved: the statement DivTells: for any two rows (of at most 40 limbs), any bits (of at most 1500) and any limb: quotients and rests by each way, reciprocals, and quotients by a limb, are the document's. No condition. -/
namespace Go.Proofs.YtikajmmeglookaaGreatDoor
open Go.ChangeShapes Go.WideShapes Go.ChangeAt Go.RowKit
set_option linter.unusedVariables false
set_option maxHeartbeats 2000000

theorem bounds_n {z : Int} (h : (Lit.int .u32 z).wf = true) : ∃ n : Nat, z = (n : Int) ∧ n < 4294967296 := by
  have := bounds_u32 h
  exact ⟨z.toNat, by omega, by omega⟩
set_option maxRecDepth 100000 in
theorem open_nums {H : Type} {enc : TypeId × Value → H} {W : World} {base : Nat} {v : Value} {d : DataW H} {ps : List MemPlace} (hval : Value.okWide Tryz.prog W .any base 24 v) (h : DataW.Trod enc Tryz.prog W 0 (fun _ => true) true 24 v d ps) :
    ∃ n0 n1 : Nat, v = .agg #[.int .u32 (n0 : Nat), .int .u32 (n1 : Nat)] ∧ n0 < 4294967296 ∧ n1 < 4294967296 := by
  obtain ⟨cs, rfl, hsz⟩ := okWide_arr' Tryz.underlying24 hval
  rw [show Tryz.prog.cellsOf 24 = 2 by kernel_rfl] at hsz
  obtain ⟨l⟩ := cs
  match l, hsz with
  | [c0, c1], _ =>
    obtain ⟨fuel, hf⟩ := h
    obtain ⟨y0, y1, n, h0, h1⟩ := trod_array2 Tryz.underlying24 (show Tryz.prog.cellsOf 23 = 1 by kernel_rfl) hf
    obtain ⟨a0, e0, _, f0⟩ := DataW.trod_int Tryz.underlying23 h0
    obtain ⟨a1, e1, _, f1⟩ := DataW.trod_int Tryz.underlying23 h1
    simp at e0 e1
    subst e0 e1
    obtain ⟨n0, rfl, g0⟩ := bounds_n f0
    obtain ⟨n1, rfl, g1⟩ := bounds_n f1
    exact ⟨n0, n1, rfl, g0, g1⟩

set_option maxRecDepth 100000 in
theorem lifted_DivTells (os : Os) (started : os.Started) (H : Type) (enc : TypeId × Value → H) :
    ReturnsInHanded {} Tryz.checked os 3 .any (fun w args => (Rows.divTellsSpec.pre enc Tryz.prog Tryz.f3 [] false w args ∧ laidMetH Tryz.prog laidT w) ∧ sizedMet enc Tryz.prog Tryz.f3 (OpenSpec.ofChange Rows.divTellsSpec) false w args)
      (Rows.divTellsSpec.post enc Tryz.prog Tryz.f3 false true false false) := by
  refine returnsInHanded_of_change_and (C := Tryz.checked) (X := fun w _ => laidMetH Tryz.prog laidT w) (fun _ _ _ hh h => h.of_heap hh) own started (by kernel_rfl) Tryz.func3
    (ChangeSpec.witness_shaped (enc := enc) (C := Tryz.checked) (os := os) (X := fun w _ => laidMetH Tryz.prog laidT w) false (World.doorLaid Tryz.prog 400 os) #[.slice none 0 0, .slice none 0 0, .agg #[.int .u32 0, .int .u32 0]] 8 rfl (World.shaped_of_RefB (by kernel_rfl) (by kernel_rfl)) (by kernel_rfl) (by kernel_rfl) (by kernel_rfl) (door_met os _)) ?_
  intro W base args ds gs before hval0 hW _ _ hL _
  have hval : ∀ (j : Nat) t v, Tryz.f3.params[j]? = some t → args[j]? = some v → Value.okWide Tryz.prog W .any base t v := hval0
  have hW' := hW
  obtain ⟨p, q, hA0, hV, rfl, hfz, hnd⟩ := hW
  have hlt : ∀ x ∈ p ++ q, x.block < W.heap.size := fun x hx => hW'.lt x hx
  have hA : DataW.TrodAll enc Tryz.prog W 0 (fun _ => true) true Tryz.f3.params.toList args.toList ds p := hA0
  rw [Tryz.params3] at hA hval
  clear hA0 hval0
  obtain ⟨v0, vs0, d0, ds0, p0, q0, hargs0, rfl, rfl, h0, r0⟩ := trodAll_cons hA
  obtain ⟨v1, vs1, d1, ds1, p1, q1, hargs1, rfl, rfl, h1, r1⟩ := trodAll_cons r0
  obtain ⟨v2, vs2, d2, ds2, p2, q2, hargs2, rfl, rfl, h2, r2⟩ := trodAll_cons r1
  obtain ⟨hn1, rfl, rfl⟩ := trodAll_nil r2
  subst hn1
  subst hargs2
  subst hargs1
  obtain rfl : args = #[v0, v1, v2] := by cases args; simp_all
  obtain ⟨rfl, rfl⟩ := trodVars_none hV
  obtain ⟨xs0, u0⟩ := open_limbs (hval 0 22 v0 rfl rfl) h0 (fun x hx => hlt x (by simp [hx]))
  obtain ⟨xs1, u1⟩ := open_limbs (hval 1 22 v1 rfl rfl) h1 (fun x hx => hlt x (by simp [hx]))
  obtain ⟨na2, nb2, hv2, hna2, hnb2⟩ := open_nums (hval 2 24 v2 rfl rfl) h2
  subst hv2
  refine (DivTells_walk W _ _ u0 _ _ u1 na2 nb2 hna2 hnb2).mono fun e W' ⟨he, hB⟩ => ?_
  subst he
  exact ⟨_, rfl, law_post hW' rfl (by rw [Tryz.params3]; decide +kernel) rfl rfl rfl rfl hB⟩

theorem divTells_said : Rows.DivTellsSaid :=
  OpenClaim.holds_of_wide 3 Tryz.f3 rfl rfl rfl rfl rfl rfl rfl ⟨rfl, rfl, rfl, rfl, rfl⟩ rfl rfl rfl rfl rfl (by kernel_rfl) Tryz.func3 (by kernel_rfl)
    (of_decide_eq_true (by kernel_rfl)) (by unfold Func.isWrapper; first | (rw [if_pos (by decide +kernel)]; kernel_rfl) | (rw [if_neg (by decide +kernel)]; exact ⟨rfl, rfl⟩))
    (fun os started H enc _ => lifted_DivTells os started H enc)
/-- The statement: the card, tied. -/
theorem divTells_holds : Rows.DivTellsCardSaid :=
  Claim7.holds_tied_plain_at .later [] [.wider] true Rows.divTellsCard.stood.harness false
    divTells_said (fun _ h => by cases h) (by kernel_rfl) (fun _ h => by cases h) divTells_row_tie rfl ⟨rfl, rfl⟩ (by kernel_rfl) rfl
    (fun f fn hf hfn => by
      obtain rfl : f = 3 := Option.some.inj ((show Tryz.prog.funcNamed "ziggurat/zigguratlaw04.DivTells" = some 3 by kernel_rfl).symm.trans hf) |>.symm
      obtain rfl : fn = Tryz.f3 := (Option.some.inj (Tryz.func3.symm.trans hfn)).symm
      exact ⟨by kernel_rfl, fun j t ht => by
        rw [Tryz.params3] at ht
        have hm : t ∈ [22, 22, 24] := by simpa using Array.mem_of_getElem? ht
        have hall : ([22, 22, 24].all fun u => !Tryz.prog.wantsStandIn u) = true := by kernel_rfl
        exact (show Tryz.prog.wantsStandIn t = false by simpa using List.all_eq_true.1 hall t hm)⟩)
    (by kernel_rfl)
end Go.Proofs.YtikajmmeglookaaGreatDoor
