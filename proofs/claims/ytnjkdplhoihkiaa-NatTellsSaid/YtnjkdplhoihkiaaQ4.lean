/- The document's own Sub. -/
import Derived.Test.YtnjkdplhoihkiaaQ3
namespace Go.Proofs.Ytnjkdplhoihkiaa
open Go.RowKit
set_option linter.unusedVariables false
set_option maxHeartbeats 400000
attribute [local go_sem ↓] app_shut
attribute [local go_sem] run_append_tok

/-- The limbs of a difference so far, and what is borrowed. -/
structure RSub (xs ys : List Nat) (k : Nat) (o : List Nat) (c : Nat) : Prop where
  len : o.length = k
  lt : ∀ x ∈ o, x < 4294967296
  carry : c ≤ 1
  val_eq : val o + pv ys k = pv xs k + c * 4294967296 ^ k
theorem RSub.start (xs ys : List Nat) : RSub xs ys 0 [] 0 := ⟨rfl, by simp, by omega, rfl⟩
theorem RSub.step {xs ys : List Nat} {k : Nat} {o : List Nat} {c : Nat} (h : RSub xs ys k o c) (hx : ∀ x ∈ xs, x < 4294967296) (hy : ∀ x ∈ ys, x < 4294967296) :
    RSub xs ys (k + 1) (o ++ [(4294967296 + lb xs k - lb ys k - c) % 4294967296]) (1 - (4294967296 + lb xs k - lb ys k - c) / 4294967296) := by
  have h1 := lb_lt hx k
  have h2 := lb_lt hy k
  have h3 := h.carry
  refine ⟨by simp [h.len], snoc_lt h.lt (Nat.mod_lt _ (by decide)), by omega, ?_⟩
  rw [val_snoc, pv_succ, pv_succ, h.len, Nat.pow_succ]
  have e := h.val_eq
  generalize 4294967296 ^ k = B at *
  generalize lb xs k = p at *
  generalize lb ys k = q at *
  obtain ⟨d, hd⟩ : ∃ d, (4294967296 + p - q - c) % 4294967296 = d := ⟨_, rfl⟩
  obtain ⟨f, hf⟩ : ∃ f, 1 - (4294967296 + p - q - c) / 4294967296 = f := ⟨_, rfl⟩
  have e3 : d + q + c = p + f * 4294967296 := by omega
  rw [hd, hf]
  have e4 : (d + q + c) * B = (p + f * 4294967296) * B := by rw [e3]
  rw [Nat.add_mul, Nat.add_mul, Nat.add_mul] at e4
  have e5 : f * (B * 4294967296) = f * 4294967296 * B := by
    rw [Nat.mul_comm B 4294967296, ← Nat.mul_assoc]
  rw [e5]
  omega
theorem RSub.done {xs ys : List Nat} {o : List Nat} {c : Nat} (h : RSub xs ys xs.length o c) (hl : ys.length ≤ xs.length) (hge : val ys ≤ val xs) : val o = val xs - val ys := by
  have e := h.val_eq
  rw [pv_all xs _ (Nat.le_refl _), pv_all ys _ hl] at e
  have hlt := val_lt o h.lt
  rw [h.len] at hlt
  have hc := h.carry
  generalize 4294967296 ^ xs.length = B at *
  have : c = 0 ∨ c = 1 := by omega
  rcases this with rfl | rfl <;> omega

set_option maxRecDepth 100000 in
theorem rsub_calls (w : World) (v u : Value) (n m : Nat) (h : Un w v n) (g : Un w u m) (hl : (limbs n).length ≤ 100000000) (hl2 : (limbs m).length ≤ 100000000) (b : Bool) (hb : decide (m ≤ n) = b) (d : Nat) (hd : n - m = d) :
    Calls Try.prog 19 #[v, u] w fun e w' => (∃ z, e = .returned (.tuple #[z, .bool b]) ∧ Un w' z d) ∧ Below w.heap.size w w' := by
  obtain ⟨A, c, rfl, ⟨hc, hm⟩, hx, hr⟩ := id h
  obtain ⟨A2, c2, rfl, ⟨hc2, hm2⟩, hx2, hr2⟩ := id g
  clear hr hr2
  rcases Nat.lt_or_ge n m with hlt | hge
  · have HF : Hid (cmpI (val (limbs n) : Nat) (val (limbs m) : Nat) = -1) := by rw [Hid, val_limbs, val_limbs]; exact cmpI_lt (Int.ofNat_lt.2 hlt)
    obtain rfl : d = 0 := by omega
    obtain rfl : b = false := by rw [← hb, decide_eq_false_iff_not]; omega
    clear hb hd hlt
    go_enter Try.func19, Try.ntmps19
    go_wp2_with (fail)
    refine (rcmp_calls _ _ _ _ _ h g (by omega) (by omega)).mono ?_
    rintro e w' ⟨rfl, rfl⟩
    rw [HF.out]
    go_wp2
    go_ret2
    exact ⟨⟨_, rfl, Un_nil _⟩, Below.refl _ _⟩
  · have HF : Hid (0 ≤ cmpI (val (limbs n) : Nat) (val (limbs m) : Nat)) := by
      rw [Hid, val_limbs, val_limbs]
      rcases Nat.lt_or_ge m n with h1 | h1
      · rw [cmpI_gt (Int.ofNat_lt.2 h1)]; decide
      · obtain rfl : n = m := by omega
        rw [cmpI_eq]; decide
    obtain rfl : b = true := by rw [← hb, decide_eq_true_iff]; omega
    have HD := Lib.hid hd
    have HG := Lib.hid hge
    have hll := len_mono hge
    clear hb hd hge
    obtain ⟨K, hK⟩ : ∃ K, cmpI (val (limbs n) : Nat) (val (limbs m) : Nat) = K := ⟨_, rfl⟩
    have hK0 : 0 ≤ K := by rw [← hK]; exact HF.out
    clear HF
    go_enter Try.func19, Try.ntmps19
    go_wp2_with (fail)
    refine (rcmp_calls _ _ _ _ _ h g (by omega) (by omega)).mono ?_
    rintro e w' ⟨rfl, rfl⟩
    rw [hK]
    clear hK
    go_wp2_with (fail)
    have hown0 : Own (w.alloc (.cells #[] 37)) w.heap.size (.slice (some ⟨w.heap.size, 0, none⟩) 0 0) [] := World.ownsRow_lit w #[] 0 (Nat.le_refl _) (Nat.zero_le _) rfl
    have hB0 : Below w.heap.size w (w.alloc (.cells #[] 37)) := (Below.refl _ _).alloc (Nat.le_refl _) _
    go_loopw [6, 7, 8] (fun s cv i wr => ∃ (k cy : Nat) (o : List Nat), k ≤ (limbs n).length ∧ i = .int .i64 k ∧ cv = .int .u64 cy ∧ Hid (RSub (limbs n) (limbs m) k o cy) ∧ Own wr w.heap.size s o ∧ Below w.heap.size w wr) (fun _ _ i _ => (limbs n).length - (intOf i).toNat)
    case atStart => exact ⟨0, 0, [], Nat.zero_le _, rfl, rfl, RSub.start _ _, hown0, hB0⟩
    case round =>
      clear hown0 hB0
      obtain ⟨k, cy, o, hk, rfl, rfl, HO, hown, hB⟩ := hrel
      by_cases hd1 : k < (limbs n).length
      · have h1 := lb_lt hx k
        have h2 := lb_lt hx2 k
        have h3 := HO.out.carry
        have hlen := HO.out.len
        obtain ⟨x1, hx1⟩ : ∃ x1, (4294967296 + lb (limbs n) k - lb (limbs m) k - cy) % 4294967296 = x1 := ⟨_, rfl⟩
        obtain ⟨c1, hc1⟩ : ∃ c1, 1 - (4294967296 + lb (limbs n) k - lb (limbs m) k - cy) / 4294967296 = c1 := ⟨_, rfl⟩
        have HO2 : Hid (RSub (limbs n) (limbs m) (k + 1) (o ++ [x1]) c1) := by rw [Hid, ← hx1, ← hc1]; exact HO.out.step hx hx2
        obtain ⟨v', w', hrun, hown', hB'⟩ := push_own hB hown ((4294967296 + ((lb (limbs n) k : Nat) : Int) - ((lb (limbs m) k : Nat) : Int) - (cy : Int)) % 4294967296) x1 (by rw [← hx1]; omega) (by rw [← hx1]; exact Nat.mod_lt _ (by decide)) (by omega)
        obtain ⟨t1, t2, t3⟩ := app_tok hrun
        have HC1 : Hid (1 - (4294967296 + ((lb (limbs n) k : Nat) : Int) - ((lb (limbs m) k : Nat) : Int) - (cy : Int)) / 4294967296 = (c1 : Int)) := by rw [Hid, ← hc1]; omega
        clear hrun hx1 hc1 hlen
        go_wp2_with (fail)
        refine (limb_calls _ _ (limbs n) _ k rfl (U.below h hB)).mono ?_
        rintro e w' ⟨rfl, rfl⟩
        go_wp2_with (fail)
        refine (limb_calls _ _ (limbs m) _ k rfl (U.below g hB)).mono ?_
        rintro e w' ⟨rfl, rfl⟩
        go_wp2_with (fail)
        go_roundw
        case rel => exact ⟨k + 1, c1, _, by omega, by go_num, by rw [HC1.out], HO2, hown', hB'⟩
        case measure => simp [intOf]; omega
      · have hlen := HO.out.len
        obtain rfl : k = (limbs n).length := by omega
        have HV : Hid (val o = d) := by rw [Hid, HO.out.done hll (by rw [val_limbs, val_limbs]; exact HG.out), val_limbs, val_limbs]; exact HD.out
        have hu := hown.toU HO.out.lt (by omega)
        have hol : o.length ≤ 1000000000 := by omega
        clear hlen
        go_wp2_with (fail)
        refine (rmake_calls _ _ _ hu hol).mono ?_
        rintro e w' ⟨⟨z, rfl, hz⟩, hB2⟩
        have hz2 : Un w' z d := by rw [← HV.out]; exact hz
        replace hB := Below.trans hB (Below.mono hB2 hB.size)
        clear hz
        go_wp2
        go_ret2
        exact ⟨⟨_, rfl, hz2⟩, hB⟩
end Go.Proofs.Ytnjkdplhoihkiaa
