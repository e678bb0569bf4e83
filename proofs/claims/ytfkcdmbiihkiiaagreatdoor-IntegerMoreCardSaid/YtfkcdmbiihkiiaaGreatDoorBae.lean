/- Numbers put where their places' bits, turned round, say. -/
import Derived.Test.YtfkcdmbiihkiiaaGreatDoorBad
import Derived.Laws.Externs
import Derived.Laws.StructEq
import Derived.Laws.Cover2
import Derived.Laws.Tables
import Derived.Laws.Small
import Derived.Below
import Derived.Laws.OwnMore
import Derived.Deep.AppendLies
import Derived.Deep.Draws
import Derived.Lib.Hide
import Derived.Test.YtfkcdmbiihkiiaaGreatDoorProg
import Derived.WalkKit
import Derived.ProofKit
import Derived.OpenShut
import Derived.JoinedCond
import Derived.RegionTactic
import Derived.LoopTactic
import Derived.BigQuiet
import Derived.Deep.QuietTactic
import Derived.Outline

namespace Go.Proofs.YtfkcdmbiihkiiaaGreatDoor
open Go.RowKit
set_option linter.unusedVariables false
set_option maxHeartbeats 400000

/-- Behind the first i rounds. -/
structure Sw (k p i : Nat) (l o : List Nat) : Prop where
  len : o.length = 2 ^ k
  lt : ∀ x ∈ o, x < p
  at_ : ∀ j, j < 2 ^ k → lb o j = if j < i ∨ rev k j < i then lb l (rev k j) else lb l j
theorem Sw.start (k p : Nat) (l : List Nat) (h : l.length = 2 ^ k) (hl : ∀ x ∈ l, x < p) : Sw k p 0 l l :=
  ⟨h, hl, fun j hj => by rw [if_neg (by omega)]⟩
theorem Sw.keep {k p i : Nat} {l o : List Nat} (H : Sw k p i l o) (hi : i < 2 ^ k) (h : rev k i ≤ i) : Sw k p (i + 1) l o := by
  refine ⟨H.len, H.lt, fun j hj => ?_⟩
  rw [H.at_ j hj]
  by_cases e : j = i
  · subst e
    rw [if_pos (show j < j + 1 ∨ _ by omega)]
    by_cases e2 : rev k j < j
    · rw [if_pos (.inr e2)]
    · rw [show rev k j = j by omega]; simp
  · by_cases e2 : rev k j = i
    · have hji : j = rev k i := by rw [← e2, rev_rev k j hj]
      rw [if_pos (.inl (by omega)), if_pos (.inl (by omega))]
    · by_cases c : j < i ∨ rev k j < i
      · rw [if_pos c, if_pos (by omega)]
      · rw [if_neg c, if_neg (by omega)]
end Go.Proofs.YtfkcdmbiihkiiaaGreatDoor
/- The three primes, and what their roots do. -/
namespace Go.Proofs.YtfkcdmbiihkiiaaGreatDoor
open Go.RowKit
set_option linter.unusedVariables false

/-- A power modulo p, by squaring. -/
def pm (p : Nat) : Nat → Nat → Nat → Nat
  | 0, _, _ => 1 % p
  | k + 1, b, e => if e % 2 = 1 then b * pm p k (b * b % p) (e / 2) % p else pm p k (b * b % p) (e / 2)
theorem pow_mod2 (a n p : Nat) : (a % p) ^ n % p = a ^ n % p := by rw [← Nat.pow_mod]
theorem pm_eq (p k b e : Nat) (h : e < 2 ^ k) : pm p k b e = b ^ e % p := by
  induction k generalizing b e with
  | zero => simp at h; subst h; simp [pm]
  | succ k ih =>
    rw [Nat.pow_succ] at h
    have hh : e / 2 < 2 ^ k := by omega
    have e2 : b ^ (2 * (e / 2)) % p = (b * b % p) ^ (e / 2) % p := by rw [Nat.pow_mul, pow_mod2, Nat.pow_two]
    rw [pm, ih _ _ hh]
    rcases (show e % 2 = 0 ∨ e % 2 = 1 by omega) with h0 | h1
    · rw [if_neg (by omega), ← e2]; congr 2; omega
    · rw [if_pos h1, ← e2, ← Nat.mul_mod_mod]
      simp only [Nat.mod_mod]
      rw [Nat.mul_mod_mod, Nat.mul_comm, ← Nat.pow_succ]; congr 2; omega

/-- What the three records keep. -/
structure Fld (f : Fd) : Prop where
  good : Good f
  dv : (f.p - 1) % 2 ^ 20 = 0
  half : f.root ^ ((f.p - 1) / 2) % f.p = f.p - 1
  two : 2 ^ (f.p - 1) % f.p = 1
def F0 : Fd := ⟨998244353, 3, 998244351, 932051910, 0, 232013824⟩
def F1 : Fd := ⟨469762049, 3, 469762047, 460175152, 305718167, 51380224⟩
def F2 : Fd := ⟨167772161, 3, 167772159, 40265974, 115614034, 6553600⟩
theorem eqm_of_mod {p a b : Nat} (h : a % p = b % p) : Eqm (p : Int) (a : Int) (b : Int) := by
  apply Eqm.of_emod
  rw [← Int.natCast_emod, ← Int.natCast_emod, h]
theorem Fld.half' {f : Fd} (F : Fld f) : Eqm (f.p : Int) ((f.root : Int) ^ ((f.p - 1) / 2)) (-1) := by
  have p0 := F.good.p0
  have h : Eqm (f.p : Int) ((f.root ^ ((f.p - 1) / 2) : Nat) : Int) ((f.p - 1 : Nat) : Int) := eqm_of_mod (by rw [F.half, Nat.mod_eq_of_lt (by omega)])
  rw [Int.natCast_pow] at h
  exact h.trans ⟨1, by omega⟩
theorem Fld.even {f : Fd} (F : Fld f) : f.p - 1 = 2 * ((f.p - 1) / 2) := by
  have := F.dv
  simp only [Nat.reducePow] at this
  omega
theorem Fld.full {f : Fd} (F : Fld f) : Eqm (f.p : Int) ((f.root : Int) ^ (f.p - 1)) 1 := by
  rw [F.even, Nat.mul_comm, Int.pow_mul]
  have := F.half'.pow 2
  rwa [show ((-1 : Int)) ^ 2 = 1 by decide] at this
theorem Fld.dvk {f : Fd} (F : Fld f) {k : Nat} (hk : k ≤ 20) : (f.p - 1) / 2 ^ k * 2 ^ k = f.p - 1 := by
  apply Nat.div_mul_cancel
  exact Nat.dvd_trans (Nat.pow_dvd_pow 2 hk) (Nat.dvd_of_mod_eq_zero F.dv)
theorem Fld.rt {f : Fd} (F : Fld f) {k : Nat} (hk : k ≤ 20) : Rt (f.p : Int) ((rt f k : Nat) : Int) k := by
  have hd := F.dvk hk
  refine ⟨?_, fun h0 => ?_⟩
  · rw [Go.Proofs.YtfkcdmbiihkiiaaGreatDoor.rt, Int.natCast_pow, ← Int.pow_mul, hd]; exact F.full
  · rw [Go.Proofs.YtfkcdmbiihkiiaaGreatDoor.rt, Int.natCast_pow, ← Int.pow_mul]
    have : (f.p - 1) / 2 ^ k * 2 ^ (k - 1) = (f.p - 1) / 2 := by
      obtain ⟨j, rfl⟩ : ∃ j, k = j + 1 := ⟨k - 1, by omega⟩
      rw [Nat.add_sub_cancel, ← hd]
      rw [Nat.pow_succ] at hd ⊢
      rw [show (f.p - 1) / (2 ^ j * 2) * (2 ^ j * 2) = (f.p - 1) / (2 ^ j * 2) * 2 ^ j * 2 by rw [Nat.mul_assoc], Nat.mul_div_cancel _ (by decide)]
      rw [show (f.p - 1) / (2 ^ j * 2) * 2 ^ j * 2 = f.p - 1 by rw [Nat.mul_assoc]; exact hd]
    rw [this]; exact F.half'
/-- A power by p - 2 is an inverse. -/
theorem inv_of {f : Fd} (F : Fld f) {x : Nat} (h : Eqm (f.p : Int) ((x : Int) ^ (f.p - 1)) 1) : Eqm (f.p : Int) ((x : Int) * ((x ^ (f.p - 2) : Nat) : Int)) 1 := by
  have p0 := F.good.p0
  rw [Int.natCast_pow, Int.mul_comm, ← Int.pow_succ, show (f.p - 2).succ = f.p - 1 by omega]
  exact h
theorem Fld.rt_full {f : Fd} (F : Fld f) (k : Nat) : Eqm (f.p : Int) (((Go.Proofs.YtfkcdmbiihkiiaaGreatDoor.rt f k : Nat) : Int) ^ (f.p - 1)) 1 := by
  rw [Go.Proofs.YtfkcdmbiihkiiaaGreatDoor.rt, Int.natCast_pow, ← Int.pow_mul, Nat.mul_comm, Int.pow_mul]
  have := F.full.pow ((f.p - 1) / 2 ^ k)
  rwa [Int.one_pow] at this
theorem Fld.wv {f : Fd} (F : Fld f) (k : Nat) : Eqm (f.p : Int) (((Go.Proofs.YtfkcdmbiihkiiaaGreatDoor.rt f k : Nat) : Int) * ((bt f k : Nat) : Int)) 1 := inv_of F (F.rt_full k)
theorem rt_inv {p w v : Int} {k : Nat} (hr : Rt p w k) (h : Eqm p (w * v) 1) : Rt p v k := by
  have key : ∀ n, Eqm p (w ^ n * v ^ n) 1 := fun n => by
    have e : w ^ n * v ^ n = (w * v) ^ n := by
      induction n with
      | zero => simp
      | succ n ih => rw [Int.pow_succ, Int.pow_succ, Int.pow_succ, ← ih]; grind
    rw [e]; have := h.pow n; rwa [Int.one_pow] at this
  refine ⟨?_, fun h0 => ?_⟩
  · have := (hr.1.mul (Eqm.refl p (v ^ 2 ^ k))).symm.trans (key _)
    rwa [Int.one_mul] at this
  · have := ((hr.2 h0).mul (Eqm.refl p (v ^ 2 ^ (k - 1)))).symm.trans (key _)
    have := (Eqm.refl p (-1)).mul this
    rwa [show (-1 : Int) * (-1 * v ^ 2 ^ (k - 1)) = v ^ 2 ^ (k - 1) by grind, Int.mul_one] at this
theorem Fld.bt {f : Fd} (F : Fld f) {k : Nat} (hk : k ≤ 20) : Rt (f.p : Int) ((bt f k : Nat) : Int) k := rt_inv (F.rt hk) (F.wv k)
/-- What a transform by a root W, each number times S, has in place j. -/
structure TrOut (f : Fd) (k W S : Nat) (l out : List Nat) : Prop where
  len : out.length = 2 ^ k
  lt : ∀ x ∈ out, x < f.p
  at_ : ∀ j, j < 2 ^ k → Eqm (f.p : Int) (seq out j) ((S : Int) * dft (W : Int) (2 ^ k) (seq l) j)
theorem TrOut.of {f : Fd} {k W : Nat} {l o o2 : List Nat} (h1 : DownL f k W l 0 o) (h2 : Sw k f.p (2 ^ k) o o2) : TrOut f k W 1 l o2 := by
  refine ⟨h2.len, h2.lt, fun j hj => ?_⟩
  unfold seq
  rw [h2.at_ j hj, if_pos (.inl hj), Int.natCast_one, Int.one_mul]
  have := h1.down.done (rev k j) (rev_lt k j)
  rw [rev_rev k j hj] at this
  exact this
end Go.Proofs.YtfkcdmbiihkiiaaGreatDoor
/- Lengths in bits, of 64 bits. -/
namespace Go.Proofs.YtfkcdmbiihkiiaaGreatDoor
open Go.RowKit
set_option linter.unusedVariables false
set_option maxHeartbeats 400000

theorem len64_a (w : World) (x : Nat) (h : x < 256) :
    Calls Tryz.prog 144 #[.int .u64 x] w fun e w' => e = .returned (.int .i64 (blen x : Nat)) ∧ w = w' := by
  have h65 : decide ((65536 : Int) ≤ (x : Nat)) = false := by rw [decide_eq_false_iff_not]; omega
  have h256 : decide ((256 : Int) ≤ (x : Nat)) = false := by rw [decide_eq_false_iff_not]; omega
  have h32 : decide ((4294967296 : Int) ≤ (x : Nat)) = false := by rw [decide_eq_false_iff_not]; omega
  have HF : Hid (blen x = blen (x % 256)) := by rw [Hid, Nat.mod_eq_of_lt h]
  have hI := fun w => idx_tab8 (P := Tryz.prog) 9 Tryz.underlying9 .u8 (x % 256) (by omega) w
  have hB := blen_le_of_lt (n := x % 256) (k := 8) (by omega)
  have hv : ((x % 256 : Nat) : Int) = (x : Int) % 256 := by omega
  rw [hv] at hI
  clear hv
  generalize blen (x % 256) = b at *
  go_enter Tryz.func144, Tryz.ntmps144
  generalize hT : (ByteArray.mk _ : ByteArray) = T
  have hT2 : T = tab8 := by rw [← hT]; exact tab8_eq
  rw [← hT2] at hI
  clear hT hT2 h
  go_wp2
  go_ret
  exact ⟨by rw [HF.out]; first | rfl | exact ret_int (by omega), rfl⟩

theorem len64_b (w : World) (x : Nat) (h : 256 ≤ x) (h2 : x < 65536) :
    Calls Tryz.prog 144 #[.int .u64 x] w fun e w' => e = .returned (.int .i64 (blen x : Nat)) ∧ w = w' := by
  have h65 : decide ((65536 : Int) ≤ (x : Nat)) = false := by rw [decide_eq_false_iff_not]; omega
  have h256 : decide ((256 : Int) ≤ (x : Nat)) = true := by rw [decide_eq_true_iff]; omega
  have h32 : decide ((4294967296 : Int) ≤ (x : Nat)) = false := by rw [decide_eq_false_iff_not]; omega
  have HF : Hid (blen x = 8 + blen (x / 256 % 256)) := by
    rw [Hid, Nat.mod_eq_of_lt (by omega)]; exact blen_shift x 8 (by simp only [Nat.reducePow]; omega)
  have hI := fun w => idx_tab8 (P := Tryz.prog) 9 Tryz.underlying9 .u8 (x / 256 % 256) (by omega) w
  have hB := blen_le_of_lt (n := x / 256 % 256) (k := 8) (by omega)
  have hv : ((x / 256 % 256 : Nat) : Int) = (x : Int) / 256 % 256 := by omega
  rw [hv] at hI
  clear hv
  generalize blen (x / 256 % 256) = b at *
  go_enter Tryz.func144, Tryz.ntmps144
  generalize hT : (ByteArray.mk _ : ByteArray) = T
  have hT2 : T = tab8 := by rw [← hT]; exact tab8_eq
  rw [← hT2] at hI
  clear hT hT2 h h2
  go_wp2
  go_ret
  exact ⟨by rw [HF.out]; first | rfl | exact ret_int (by omega), rfl⟩

theorem len64_c (w : World) (x : Nat) (h : 65536 ≤ x) (h2 : x < 16777216) :
    Calls Tryz.prog 144 #[.int .u64 x] w fun e w' => e = .returned (.int .i64 (blen x : Nat)) ∧ w = w' := by
  have h65 : decide ((65536 : Int) ≤ (x : Nat)) = true := by rw [decide_eq_true_iff]; omega
  have h256 : decide ((256 : Int) ≤ (x : Nat) / 65536) = false := by rw [decide_eq_false_iff_not]; omega
  have h32 : decide ((4294967296 : Int) ≤ (x : Nat)) = false := by rw [decide_eq_false_iff_not]; omega
  have HF : Hid (blen x = 16 + blen (x / 65536 % 256)) := by
    rw [Hid, Nat.mod_eq_of_lt (by omega)]; exact blen_shift x 16 (by simp only [Nat.reducePow]; omega)
  have hI := fun w => idx_tab8 (P := Tryz.prog) 9 Tryz.underlying9 .u8 (x / 65536 % 256) (by omega) w
  have hB := blen_le_of_lt (n := x / 65536 % 256) (k := 8) (by omega)
  have hv : ((x / 65536 % 256 : Nat) : Int) = (x : Int) / 65536 % 256 := by omega
  rw [hv] at hI
  clear hv
  generalize blen (x / 65536 % 256) = b at *
  go_enter Tryz.func144, Tryz.ntmps144
  generalize hT : (ByteArray.mk _ : ByteArray) = T
  have hT2 : T = tab8 := by rw [← hT]; exact tab8_eq
  rw [← hT2] at hI
  clear hT hT2 h h2
  go_wp2
  go_ret
  exact ⟨by rw [HF.out]; first | rfl | exact ret_int (by omega), rfl⟩

theorem len64_d (w : World) (x : Nat) (h : 16777216 ≤ x) (h2 : x < 4294967296) :
    Calls Tryz.prog 144 #[.int .u64 x] w fun e w' => e = .returned (.int .i64 (blen x : Nat)) ∧ w = w' := by
  have h65 : decide ((65536 : Int) ≤ (x : Nat)) = true := by rw [decide_eq_true_iff]; omega
  have h256 : decide ((256 : Int) ≤ (x : Nat) / 65536) = true := by rw [decide_eq_true_iff]; omega
  have h32 : decide ((4294967296 : Int) ≤ (x : Nat)) = false := by rw [decide_eq_false_iff_not]; omega
  have HF : Hid (blen x = 24 + blen (x / 65536 / 256 % 256)) := by
    rw [Hid, Nat.div_div_eq_div_mul, Nat.mod_eq_of_lt (by omega)]; exact blen_shift x 24 (by simp only [Nat.reducePow]; omega)
  have hI := fun w => idx_tab8 (P := Tryz.prog) 9 Tryz.underlying9 .u8 (x / 65536 / 256 % 256) (by omega) w
  have hB := blen_le_of_lt (n := x / 65536 / 256 % 256) (k := 8) (by omega)
  have hv : ((x / 65536 / 256 % 256 : Nat) : Int) = (x : Int) / 65536 / 256 % 256 := by omega
  rw [hv] at hI
  clear hv
  generalize blen (x / 65536 / 256 % 256) = b at *
  go_enter Tryz.func144, Tryz.ntmps144
  generalize hT : (ByteArray.mk _ : ByteArray) = T
  have hT2 : T = tab8 := by rw [← hT]; exact tab8_eq
  rw [← hT2] at hI
  clear hT hT2 h h2
  go_wp2
  go_ret
  exact ⟨by rw [HF.out]; first | rfl | exact ret_int (by omega), rfl⟩

theorem len64_calls (w : World) (x : Nat) (h : x < 4294967296) :
    Calls Tryz.prog 144 #[.int .u64 x] w fun e w' => e = .returned (.int .i64 (blen x : Nat)) ∧ w = w' := by
  rcases Nat.lt_or_ge x 256 with h1 | h1
  · exact len64_a w x h1
  · rcases Nat.lt_or_ge x 65536 with h2 | h2
    · exact len64_b w x h1 h2
    · rcases Nat.lt_or_ge x 16777216 with h3 | h3
      · exact len64_c w x h2 h3
      · exact len64_d w x h3 h

theorem len_calls (w : World) (x : Nat) (h : x < 4294967296) :
    Calls Tryz.prog 109 #[.int .u64 x] w fun e w' => e = .returned (.int .i64 (blen x : Nat)) ∧ w = w' := by
  go_enter Tryz.func109, Tryz.ntmps109
  go_wp2_with (fail)
  refine (len64_calls _ x h).mono ?_
  rintro e w' ⟨rfl, rfl⟩
  go_wp2
  go_ret
  exact ⟨rfl, rfl⟩
end Go.Proofs.YtfkcdmbiihkiiaaGreatDoor
/- The table of the primes; a prime, a root. -/
namespace Go.Proofs.YtfkcdmbiihkiiaaGreatDoor
open Go.RowKit
set_option linter.unusedVariables false
set_option maxHeartbeats 400000

/-- A record of the table lies there. -/
def GB (w : World) (o : Nat) (f : Fd) : Prop := w.cell? ⟨0, o, none⟩ = some (.int .u32 (f.p : Int)) ∧ w.cell? ⟨0, o + 1, none⟩ = some (.int .u32 (f.root : Int)) ∧ w.cell? ⟨0, o + 2, none⟩ = some (.int .u32 (f.neg : Int)) ∧ w.cell? ⟨0, o + 3, none⟩ = some (.int .u32 (f.square : Int)) ∧ w.cell? ⟨0, o + 4, none⟩ = some (.int .u32 (f.ahead : Int))
/-- The table of the three primes. -/
def Gl (w : World) : Prop := 0 < w.heap.size ∧ GB w 0 F0 ∧ GB w 5 F1 ∧ GB w 10 F2
theorem GB.keep {w w' : World} {o : Nat} {f : Fd} (h : GB w o f) (hk : ∀ j, w'.cell? ⟨0, j, none⟩ = w.cell? ⟨0, j, none⟩) : GB w' o f := by
  unfold GB at *; simp only [hk]; exact h
theorem Gl.below {w w' : World} {B : Nat} (h : Gl w) (hB : Below B w w') (h0 : 0 < B) : Gl w' := by
  have hk : ∀ j, w'.cell? ⟨0, j, none⟩ = w.cell? ⟨0, j, none⟩ := fun j => hB.cell (p := ⟨0, j, none⟩) h0
  exact ⟨Nat.lt_of_lt_of_le h.1 hB.size, h.2.1.keep hk, h.2.2.1.keep hk, h.2.2.2.keep hk⟩
theorem Gl.ext {w w' : World} (h : Gl w) (hB : Ext w w') : Gl w' := h.below hB h.1

/-- The record of that number. -/
def fd (i : Nat) : Fd := if i = 0 then F0 else if i = 1 then F1 else F2
end Go.Proofs.YtfkcdmbiihkiiaaGreatDoor
/- The transform. -/
namespace Go.Proofs.YtfkcdmbiihkiiaaGreatDoor
open Go.RowKit
set_option linter.unusedVariables false
set_option maxHeartbeats 400000
attribute [local go_sem ↓] app_shut
attribute [local go_sem] run_append_tok

theorem Gl.at_ {w : World} (h : Gl w) {i : Nat} (hi : i < 3) : GB w (i * 5) (fd i) := by
  rcases (show i = 0 ∨ i = 1 ∨ i = 2 by omega) with rfl | rfl | rfl
  · exact h.2.1
  · exact h.2.2.1
  · exact h.2.2.2

theorem Own.shape {w : World} {base : Nat} {v : Value} {o : List Nat} (h : Own w base v o) (h0 : 0 < o.length) : ∃ g c, v = .slice (some ⟨g, 0, none⟩) o.length c := by
  rcases h.2 with ⟨_, h1⟩ | ⟨g, cap, cur, rfl, _⟩
  · omega
  · exact ⟨g, cap, rfl⟩

end Go.Proofs.YtfkcdmbiihkiiaaGreatDoor
/- The transform, back. -/
namespace Go.Proofs.YtfkcdmbiihkiiaaGreatDoor
open Go.RowKit
set_option linter.unusedVariables false
set_option maxHeartbeats 400000
attribute [local go_sem ↓] app_shut
attribute [local go_sem] run_append_tok

/-- Behind m rounds each of these numbers is times S. -/
structure Bk (f : Fd) (n S m : Nat) (l o : List Nat) : Prop where
  len : o.length = n
  lt : ∀ x ∈ o, x < f.p
  at_ : ∀ i, lb o i = if i < m then mm f (lb l i) (mont f S) else lb l i
theorem Bk.start {f : Fd} {n S : Nat} {l : List Nat} (h : l.length = n) (hl : ∀ x ∈ l, x < f.p) : Bk f n S 0 l l := ⟨h, hl, fun i => by rw [if_neg (by omega)]⟩
theorem Bk.step {f : Fd} {n S m : Nat} {l o : List Nat} (H : Bk f n S m l o) (hf : Good f) (hm : m < n) : Bk f n S (m + 1) l (o.set m (mm f (lb o m) (mont f S))) := by
  refine ⟨by simp [H.len], set_lt H.lt (mm_lt f hf _ _), fun i => ?_⟩
  have e0 : lb o m = lb l m := by rw [H.at_ m, if_neg (Nat.lt_irrefl m)]
  rw [lb_set _ _ _ _ (by rw [H.len]; exact hm), e0]
  by_cases e : m = i
  · subst e; rw [if_pos rfl, if_pos (by omega)]
  · rw [if_neg e, H.at_ i]
    by_cases c : i < m
    · rw [if_pos c, if_pos (by omega)]
    · rw [if_neg c, if_neg (by omega)]
theorem TrOut.times {f : Fd} {k W S : Nat} {l o6 o : List Nat} (h : TrOut f k W 1 l o6) (hf : Good f) (H : Bk f (2 ^ k) S (2 ^ k) o6 o) : TrOut f k W S l o := by
  refine ⟨H.len, H.lt, fun j hj => ?_⟩
  unfold seq
  rw [H.at_ j, if_pos hj]
  refine (mm_mont_eqm f hf _ _).trans ?_
  have := (h.at_ j hj).mul (Eqm.refl (f.p : Int) (S : Int))
  rw [Int.natCast_one, Int.one_mul, Int.mul_comm (dft _ _ _ _)] at this
  exact this

end Go.Proofs.YtfkcdmbiihkiiaaGreatDoor
/- Where there is no transform. -/
namespace Go.Proofs.YtfkcdmbiihkiiaaGreatDoor
open Go.RowKit
set_option linter.unusedVariables false
set_option maxHeartbeats 400000

theorem U.shape {w : World} {v : Value} {xs : List Nat} (h : U w v xs) : ∃ A c, v = .slice A xs.length c ∧ xs.length ≤ c := by
  obtain ⟨A, c, rfl, hc, _⟩ := h; exact ⟨A, c, rfl, hc.1⟩
end Go.Proofs.YtfkcdmbiihkiiaaGreatDoor
/- Sums of products of limbs; rows of three limbs each. -/
namespace Go.Proofs.YtfkcdmbiihkiiaaGreatDoor
open Go.RowKit
set_option linter.unusedVariables false

/-- The sum of a[i'] b[m - i'] over i' below i. -/
def cv (a b : List Nat) : Nat → Nat → Nat
  | 0, _ => 0
  | i + 1, m => cv a b i m + if i ≤ m then lb a i * lb b (m - i) else 0
theorem sq_lt {x y : Nat} (hx : x < 4294967296) (hy : y < 4294967296) : x * y ≤ 18446744065119617025 := Nat.mul_le_mul (show x ≤ 4294967295 by omega) (show y ≤ 4294967295 by omega)
/-- All sums. -/
def conv (a b : List Nat) : List Nat := (List.range (a.length + b.length - 1)).map fun m => cv a b a.length m
theorem lb_map (n : Nat) (f : Nat → Nat) (m : Nat) (h : m < n) : lb ((List.range n).map f) m = f m := by simp [lb, h]
/-- Three limbs of each number. -/
def fl : List Nat → List Nat
  | [] => []
  | c :: cs => c % 4294967296 :: c / 4294967296 % 4294967296 :: c / 18446744073709551616 % 4294967296 :: fl cs
theorem fl_len (cs : List Nat) : (fl cs).length = cs.length * 3 := by
  induction cs with
  | nil => rfl
  | cons c cs ih => simp only [fl, List.length_cons, ih]; omega
theorem fl_set (cs : List Nat) (m c : Nat) (h : m < cs.length) : fl (cs.set m c) = (((fl cs).set (m * 3) (c % 4294967296)).set (m * 3 + 1) (c / 4294967296 % 4294967296)).set (m * 3 + 2) (c / 18446744073709551616 % 4294967296) := by
  induction cs generalizing m with
  | nil => simp at h
  | cons d cs ih =>
    rcases m with _ | m
    · simp [fl]
    · have := ih m (by simpa using h)
      rw [List.set_cons_succ, fl, this]
      rw [show (m + 1) * 3 = m * 3 + 1 + 1 + 1 by omega, show m * 3 + 1 + 1 + 1 + 1 = (m * 3 + 1) + 1 + 1 + 1 by omega, show m * 3 + 1 + 1 + 1 + 2 = (m * 3 + 2) + 1 + 1 + 1 by omega]
      simp only [fl, List.set_cons_succ]
/-- v is a row of the call's own, of three limbs each: the numbers cs. -/
def Own3 (w : World) (base : Nat) (v : Value) (cs : List Nat) : Prop := w.ownsRow base 153 3 v cs.length (L32 (fl cs))
theorem Own3.block {w : World} {base g n c : Nat} {o : List Nat} (h : Own3 w base (.slice (some ⟨g, 0, none⟩) n c) o) : base ≤ g ∧ g < w.heap.size := by
  have h0 : w.ownsRow base 153 3 (.slice (some ⟨g, 0, none⟩) n c) o.length (L32 (fl o)) := h
  exact h0.lt g rfl
theorem Own3.caps {w : World} {base g n c : Nat} {o : List Nat} (h : Own3 w base (.slice (some ⟨g, 0, none⟩) n c) o) : n = o.length ∧ n ≤ c ∧ c ≤ maxLen := by
  rcases h.2 with ⟨h1, _⟩ | ⟨g', cap, cur, h1, hg, hh, h2, h3, h4, h5⟩
  · cases h1
  · injection h1 with e1 e2 e3
    subst e2 e3
    exact ⟨rfl, h2, h3⟩
theorem Own3.below {w w' : World} {base B : Nat} {v : Value} {o : List Nat} (h : Own3 w base v o) (hB : Below B w w') (hv : ∀ g, v.ownBlock = some g → g < B) : Own3 w' base v o := by
  refine ⟨h.1, ?_⟩
  rcases h.2 with hn | ⟨g, cap, cur, rfl, hb, hgg, rest⟩
  · exact .inl hn
  · refine .inr ⟨g, cap, cur, rfl, hb, ?_, rest⟩
    rw [hB.block g (hv g rfl)]
    exact hgg
theorem Own3.ext {w w' : World} {base g n c : Nat} {o : List Nat} (h : Own3 w base (.slice (some ⟨g, 0, none⟩) n c) o) (hB : Ext w w') : Own3 w' base (.slice (some ⟨g, 0, none⟩) n c) o :=
  h.below hB (fun g' hg => by injection hg with hg; subst hg; exact h.block.2)
theorem Own3.cell {w : World} {base g n c : Nat} {o : List Nat} (h : Own3 w base (.slice (some ⟨g, 0, none⟩) n c) o) {j : Nat} (hj : j < o.length * 3) : w.cell? ⟨g, j, none⟩ = some (.int .u32 (lb (fl o) j : Nat)) := by
  obtain ⟨e, _, _⟩ := h.caps
  subst e
  have h0 : w.ownsRow base 153 3 (.slice (some ⟨g, 0, none⟩) o.length c) o.length (L32 (fl o)) := h
  rw [World.ownsRow.cellAt h0 j hj]; exact L32_get _ (by rw [fl_len]; exact hj)
theorem Own3.frozen {w : World} {base g n c : Nat} {o : List Nat} (h : Own3 w base (.slice (some ⟨g, 0, none⟩) n c) o) (j : Nat) : w.frozen? ⟨g, j, none⟩ = false := by
  obtain ⟨e, _, _⟩ := h.caps
  subst e
  have h0 : w.ownsRow base 153 3 (.slice (some ⟨g, 0, none⟩) o.length c) o.length (L32 (fl o)) := h
  exact World.ownsRow.frozenAt h0 j
theorem Own3.set_ {w : World} {base g n c : Nat} {o : List Nat} (h : Own3 w base (.slice (some ⟨g, 0, none⟩) n c) o) (m x : Nat) (hm : m < o.length) :
    Own3 (((w.setCell ⟨g, m * 3, none⟩ (.int .u32 (x % 4294967296 : Nat))).setCell ⟨g, m * 3 + 1, none⟩ (.int .u32 (x / 4294967296 % 4294967296 : Nat))).setCell ⟨g, m * 3 + 2, none⟩ (.int .u32 (x / 18446744073709551616 % 4294967296 : Nat))) base (.slice (some ⟨g, 0, none⟩) n c) (o.set m x) := by
  obtain ⟨e, _, _⟩ := h.caps
  subst e
  have h0 : w.ownsRow base 153 3 (.slice (some ⟨g, 0, none⟩) o.length c) o.length (L32 (fl o)) := h
  have h1 := (World.ownsRow.stored h0 (m * 3) (.int .u32 (x % 4294967296 : Nat))).1
  have h2 := (World.ownsRow.stored h1 (m * 3 + 1) (.int .u32 (x / 4294967296 % 4294967296 : Nat))).1
  have h3 := (World.ownsRow.stored h2 (m * 3 + 2) (.int .u32 (x / 18446744073709551616 % 4294967296 : Nat))).1
  unfold Own3
  rw [List.length_set, fl_set _ _ _ hm, L32_set, L32_set, L32_set]
  exact h3
end Go.Proofs.YtfkcdmbiihkiiaaGreatDoor
/- Are two rows the same; sums of products of short rows. -/
namespace Go.Proofs.YtfkcdmbiihkiiaaGreatDoor
open Go.RowKit
set_option linter.unusedVariables false
set_option maxHeartbeats 400000

/-- A slice of three limbs each that reads as these numbers. -/
def U3 (w : World) (v : Value) (cs : List Nat) : Prop :=
  ∃ (A : Option Addr) (c : Nat), v = .slice A cs.length c ∧ (cs.length ≤ c ∧ cs.length ≤ 9223372036854775807) ∧
    (0 < cs.length → ∃ ad, A = some ad ∧ ad.block < w.heap.size ∧ ∀ j, j < cs.length * 3 → w.cell? (ad.add j) = some (.int .u32 (lb (fl cs) j : Nat)))
theorem U3.below {w w' : World} {v : Value} {cs : List Nat} (h : U3 w v cs) (hb : Below w.heap.size w w') : U3 w' v cs := by
  obtain ⟨A, c, rfl, hc, hr⟩ := h
  refine ⟨A, c, rfl, hc, fun h0 => ?_⟩
  obtain ⟨ad, hA, hbk, hcell⟩ := hr h0
  exact ⟨ad, hA, Nat.lt_of_lt_of_le hbk hb.size, fun j hj => (hb.cell (p := ad.add j) (by rw [addr_add_block]; exact hbk)).trans (hcell j hj)⟩
theorem U3.alloc {w : World} {v : Value} {xs : List Nat} (h : U3 w v xs) (o : Obj) : U3 (w.alloc o) v xs := U3.below h ((Ext.refl w).alloc o)
theorem U3.nil_ (w : World) (A : Option Addr) (c : Nat) : U3 w (.slice A 0 c) [] := ⟨A, c, rfl, ⟨Nat.zero_le _, Nat.zero_le _⟩, fun h => absurd h (by simp)⟩
theorem Own3.toU {w : World} {base g n c : Nat} {o : List Nat} (h : Own3 w base (.slice (some ⟨g, 0, none⟩) n c) o) : U3 w (.slice (some ⟨g, 0, none⟩) n c) o := by
  obtain ⟨e, h1, h2⟩ := h.caps
  subst e
  refine ⟨_, c, rfl, ⟨h1, by unfold maxLen at h2; omega⟩, fun h0 => ⟨_, rfl, h.block.2, fun j hj => ?_⟩⟩
  rw [addr_zero_add]; exact h.cell hj
theorem addr_at (a : Addr) (n : Nat) (h : n ≠ 0) : a.add n = ⟨a.block, a.off + n, none⟩ := by unfold Addr.add; simp [h]
end Go.Proofs.YtfkcdmbiihkiiaaGreatDoor
/- Sums of products of rows of which one is short. -/
namespace Go.Proofs.YtfkcdmbiihkiiaaGreatDoor
open Go.RowKit
set_option linter.unusedVariables false
set_option maxHeartbeats 400000

/-- All sums; none where a row is empty. -/
def cvs (a b : List Nat) : List Nat := if a.length = 0 ∨ b.length = 0 then [] else conv a b
end Go.Proofs.YtfkcdmbiihkiiaaGreatDoor
/- The transform as one row of numbers; the contracts in one form. -/
namespace Go.Proofs.YtfkcdmbiihkiiaaGreatDoor
open Go.RowKit
set_option linter.unusedVariables false
set_option maxHeartbeats 400000

/-- A sum of naturals. -/
def nsum : Nat → (Nat → Nat) → Nat
  | 0, _ => 0
  | n + 1, f => nsum n f + f n
theorem nsum_cast (n : Nat) (f : Nat → Nat) : ((nsum n f : Nat) : Int) = sm n fun i => ((f i : Nat) : Int) := by
  induction n with
  | zero => rfl
  | succ n ih => rw [nsum, sm_succ, ← ih, Int.natCast_add]
theorem nsum_mod (n p : Nat) (f g : Nat → Nat) (h : ∀ i, i < n → f i % p = g i % p) : nsum n f % p = nsum n g % p := by
  induction n with
  | zero => rfl
  | succ n ih => rw [nsum, nsum, Nat.add_mod, ih fun i hi => h i (by omega), h n (by omega), ← Nat.add_mod]
/-- What stands in place j. -/
def dv (p W S n : Nat) (l : List Nat) (j : Nat) : Nat := S * nsum n (fun i => lb l i * W ^ (i * j)) % p
def trv (p W S n : Nat) (l : List Nat) : List Nat := (List.range n).map (dv p W S n l)
theorem trv_len (p W S n : Nat) (l : List Nat) : (trv p W S n l).length = n := by simp [trv]
theorem lb_trv (p W S n : Nat) (l : List Nat) (j : Nat) (h : j < n) : lb (trv p W S n l) j = dv p W S n l j := lb_map _ _ _ h
theorem dv_mod (p W S n : Nat) (l : List Nat) (j : Nat) : dv p W S n l j = dv p (W % p) (S % p) n l j := by
  unfold dv
  rw [mul_mod2, Nat.mul_mod, nsum_mod n p _ (fun i => lb l i * (W % p) ^ (i * j)) (fun i _ => by rw [Nat.mul_mod, ← pow_mod2, ← Nat.mul_mod]), ← Nat.mul_mod]
theorem trv_mod (p W S n : Nat) (l : List Nat) : trv p W S n l = trv p (W % p) (S % p) n l := by
  unfold trv
  exact List.map_congr_left fun j _ => dv_mod p W S n l j
theorem dv_lt (p W S n : Nat) (l : List Nat) (j : Nat) (hp : 0 < p) : dv p W S n l j < p := Nat.mod_lt _ hp
theorem dv_eqm (p W S n : Nat) (l : List Nat) (j : Nat) : Eqm (p : Int) ((dv p W S n l j : Nat) : Int) ((S : Int) * dft (W : Int) n (seq l) j) := by
  unfold dv dft seq
  refine (Eqm.nat_mod _ _).trans (Eqm.of_eq ?_)
  rw [Int.natCast_mul, nsum_cast]
  congr 1
theorem TrOut.eq {f : Fd} {k W S : Nat} {l out : List Nat} (h : TrOut f k W S l out) (hp : 0 < f.p) : out = trv f.p W S (2 ^ k) l := by
  refine ext_lb (by rw [h.len, trv_len]) fun j hj => ?_
  rw [h.len] at hj
  rw [lb_trv _ _ _ _ _ _ hj]
  exact ((h.at_ j hj).trans (dv_eqm _ _ _ _ _ _).symm).eq (lb_lt_of hp h.lt _) (dv_lt _ _ _ _ _ _ hp)

/-- Values by squaring. -/
theorem rt_val (f : Fd) (k v : Nat) (h1 : (f.p - 1) / 2 ^ k < 2 ^ 30) (h : pm f.p 30 f.root ((f.p - 1) / 2 ^ k) = v) : rt f k % f.p = v := by
  unfold rt; rw [← pm_eq _ 30 _ _ h1]; exact h
theorem bt_val (f : Fd) (k r v : Nat) (hr : rt f k % f.p = r) (h1 : f.p - 2 < 2 ^ 30) (h : pm f.p 30 r (f.p - 2) = v) : bt f k % f.p = v := by
  unfold bt; rw [← pow_mod2, hr, ← pm_eq _ 30 _ _ h1]; exact h
theorem sh_val (f : Fd) (n v : Nat) (h1 : f.p - 2 < 2 ^ 30) (h : pm f.p 30 n (f.p - 2) = v) : sh f n % f.p = v := by
  unfold sh; rw [← pm_eq _ 30 _ _ h1]; exact h
theorem tr_val (p W S n : Nat) (l out : List Nat) (W' S' : Nat) (hW : W % p = W') (hS : S % p = S') (h : trv p W' S' n l = out) : trv p W S n l = out := by
  rw [trv_mod, hW, hS]; exact h
theorem rt02 : rt (fd 0) 1 % (fd 0).p = 998244352 := rt_val _ _ _ (by decide +kernel) (by decide +kernel)
theorem rt05 : rt (fd 2) 2 % (fd 2).p = 65249968 := rt_val _ _ _ (by decide +kernel) (by decide +kernel)
theorem rt06 : rt (fd 1) 0 % (fd 1).p = 1 := rt_val _ _ _ (by decide +kernel) (by decide +kernel)
theorem hv1 : trv (fd 0).p (rt (fd 0) 1) 1 (2 ^ 1) [5, 7] = [12, 998244351] := tr_val _ _ _ _ _ _ _ 1 rt02 (by decide +kernel) (by decide +kernel)
theorem hv2 : trv (fd 0).p (bt (fd 0) 1) (sh (fd 0) (2 ^ 1)) (2 ^ 1) [12, 998244351] = [5, 7] :=
  tr_val _ _ _ _ _ _ 998244352 499122177 (bt_val _ _ _ _ rt02 (by decide +kernel) (by decide +kernel)) (sh_val _ _ _ (by decide +kernel) (by decide +kernel)) (by decide +kernel)
theorem hv3 : trv (fd 2).p (rt (fd 2) 2) 1 (2 ^ 2) [1, 2, 3, 4] = [10, 37272223, 167772159, 130499934] := tr_val _ _ _ _ _ _ _ 1 rt05 (by decide +kernel) (by decide +kernel)
theorem hv4 : trv (fd 1).p (bt (fd 1) 0) (sh (fd 1) (2 ^ 0)) (2 ^ 0) [9] = [9] :=
  tr_val _ _ _ _ _ _ 1 1 (bt_val _ _ _ _ rt06 (by decide +kernel) (by decide +kernel)) (sh_val _ _ _ (by decide +kernel) (by decide +kernel)) (by decide +kernel)
theorem hv5 : cvs [4294967295] [4294967295] = [18446744065119617025] := by decide +kernel
theorem hv6 : cvs [1, 2] [3, 4, 5] = [3, 10, 13, 10] := by decide +kernel
end Go.Proofs.YtfkcdmbiihkiiaaGreatDoor
/- Limbs to the base 2^32 and the numbers that they are: plain lists and naturals. -/
namespace Go.Proofs.YtfkcdmbiihkiiaaGreatDoor

/-- The number that limbs are, the lowest first. -/
def val : List Nat → Nat
  | [] => 0
  | x :: xs => x + 4294967296 * val xs

/-- The limbs of a number. -/
def limbs (n : Nat) : List Nat := if h : n = 0 then [] else n % 4294967296 :: limbs (n / 4294967296)
termination_by n
decreasing_by exact Nat.div_lt_self (Nat.pos_of_ne_zero h) (by decide)

theorem limbs_zero : limbs 0 = [] := by rw [limbs]; simp
theorem limbs_pos {n : Nat} (h : n ≠ 0) : limbs n = n % 4294967296 :: limbs (n / 4294967296) := by rw [limbs]; simp [h]

theorem val_limbs (n : Nat) : val (limbs n) = n := by
  induction n using Nat.strongRecOn with
  | _ n ih =>
    by_cases h : n = 0
    · subst h; rw [limbs_zero]; rfl
    · rw [limbs_pos h]
      have := ih (n / 4294967296) (Nat.div_lt_self (Nat.pos_of_ne_zero h) (by decide))
      simp only [val, this]
      omega

theorem limbs_lt (n : Nat) : ∀ x ∈ limbs n, x < 4294967296 := by
  induction n using Nat.strongRecOn with
  | _ n ih =>
    by_cases h : n = 0
    · subst h; rw [limbs_zero]; simp
    · rw [limbs_pos h]
      intro x hx
      rcases List.mem_cons.1 hx with rfl | hx
      · omega
      · exact ih (n / 4294967296) (Nat.div_lt_self (Nat.pos_of_ne_zero h) (by decide)) x hx

theorem val_append (xs ys : List Nat) : val (xs ++ ys) = val xs + 4294967296 ^ xs.length * val ys := by
  induction xs with
  | nil => simp [val]
  | cons x xs ih =>
    simp only [List.cons_append, val, ih, List.length_cons, Nat.pow_succ]
    rw [Nat.mul_add, Nat.add_assoc]
    congr 2
    rw [← Nat.mul_assoc, Nat.mul_comm 4294967296]

theorem val_lt (xs : List Nat) (h : ∀ x ∈ xs, x < 4294967296) : val xs < 4294967296 ^ xs.length := by
  induction xs with
  | nil => simp [val]
  | cons x xs ih =>
    have h1 := ih fun y hy => h y (List.mem_cons_of_mem _ hy)
    have h2 := h x (List.mem_cons_self ..)
    simp only [val, List.length_cons, Nat.pow_succ]
    rw [Nat.mul_comm]
    have : val xs * 4294967296 + 4294967296 ≤ 4294967296 ^ xs.length * 4294967296 := by
      have := Nat.mul_le_mul_right 4294967296 (show val xs + 1 ≤ 4294967296 ^ xs.length from h1)
      rw [Nat.add_mul] at this
      omega
    omega

theorem val_replicate_zero (k : Nat) : val (List.replicate k 0) = 0 := by
  induction k with
  | zero => rfl
  | succ k ih => simp [List.replicate_succ, val, ih]

/-- Limbs whose last one is not 0 are the limbs of their number. -/
theorem limbs_val (xs : List Nat) (h : ∀ x ∈ xs, x < 4294967296) (hl : xs ≠ [] → xs[xs.length - 1]?.getD 0 ≠ 0) : limbs (val xs) = xs := by
  induction xs with
  | nil => rw [val, limbs_zero]
  | cons x xs ih =>
    have h2 := h x (List.mem_cons_self ..)
    have ih' := ih (fun y hy => h y (List.mem_cons_of_mem _ hy)) (fun hne => by
      have := hl (by simp)
      cases xs with
      | nil => exact absurd rfl hne
      | cons y ys => simpa using this)
    have hne : val (x :: xs) ≠ 0 := by
      cases xs with
      | nil => have := hl (by simp); simp [val] at this ⊢; exact this
      | cons y ys =>
        intro h0
        simp only [val] at h0
        have : val (y :: ys) = 0 := by simp only [val]; omega
        rw [this, limbs_zero] at ih'
        cases ih'
    rw [limbs_pos hne]
    have e1 : val (x :: xs) % 4294967296 = x := by simp only [val]; omega
    have e2 : val (x :: xs) / 4294967296 = val xs := by simp only [val]; omega
    rw [e1, e2, ih']

theorem limbs_last {n : Nat} (h : n ≠ 0) : (limbs n)[(limbs n).length - 1]?.getD 0 ≠ 0 := by
  induction n using Nat.strongRecOn with
  | _ n ih =>
    rw [limbs_pos h]
    by_cases h2 : n / 4294967296 = 0
    · rw [h2, limbs_zero]
      simp; omega
    · have := ih _ (Nat.div_lt_self (Nat.pos_of_ne_zero h) (by decide)) h2
      rw [limbs_pos h2] at this ⊢
      simpa using this

theorem limbs_eq_nil {n : Nat} : limbs n = [] ↔ n = 0 := by
  constructor
  · intro h
    have := val_limbs n
    rw [h] at this
    exact this.symm
  · rintro rfl; exact limbs_zero

theorem limbs_inj {n m : Nat} (h : limbs n = limbs m) : n = m := by rw [← val_limbs n, h, val_limbs]

theorem lt_pow_len (n : Nat) : n < 4294967296 ^ (limbs n).length := by
  have := val_lt (limbs n) (limbs_lt n)
  rwa [val_limbs] at this

theorem pow_len_le {n : Nat} (h : n ≠ 0) : 4294967296 ^ ((limbs n).length - 1) ≤ n := by
  induction n using Nat.strongRecOn with
  | _ n ih =>
    rw [limbs_pos h]
    by_cases h2 : n / 4294967296 = 0
    · rw [h2, limbs_zero]
      simp; omega
    · have := ih _ (Nat.div_lt_self (Nat.pos_of_ne_zero h) (by decide)) h2
      have hl : 0 < (limbs (n / 4294967296)).length := by
        rw [limbs_pos h2]; simp
      simp only [List.length_cons, Nat.add_sub_cancel]
      obtain ⟨k, hk⟩ : ∃ k, (limbs (n / 4294967296)).length = k + 1 := ⟨_, (Nat.succ_pred_eq_of_pos hl).symm⟩
      rw [hk] at this ⊢
      simp only [Nat.add_sub_cancel] at this
      rw [Nat.pow_succ]
      have := Nat.mul_le_mul_right 4294967296 this
      omega

theorem len_le_of_lt {n k : Nat} (h : n < 4294967296 ^ k) : (limbs n).length ≤ k := by
  by_cases h0 : n = 0
  · subst h0; rw [limbs_zero]; simp
  · have := pow_len_le h0
    have h1 : 4294967296 ^ ((limbs n).length - 1) < 4294967296 ^ k := Nat.lt_of_le_of_lt this h
    have := (Nat.pow_lt_pow_iff_right (by decide : 1 < 4294967296)).1 h1
    omega

theorem len_mono {n m : Nat} (h : n ≤ m) : (limbs n).length ≤ (limbs m).length :=
  len_le_of_lt (Nat.lt_of_le_of_lt h (lt_pow_len m))

theorem val_take (xs : List Nat) (k : Nat) (h : ∀ j, k ≤ j → j < xs.length → xs[j]?.getD 0 = 0) : val (xs.take k) = val xs := by
  have e : xs = xs.take k ++ xs.drop k := (List.take_append_drop k xs).symm
  have hz : val (xs.drop k) = 0 := by
    have : xs.drop k = List.replicate (xs.drop k).length 0 := by
      apply List.ext_getElem (by simp)
      intro i h1 h2
      have hi : k + i < xs.length := by simp at h1; omega
      have := h (k + i) (by omega) hi
      simp [List.getElem?_eq_getElem hi] at this
      simp [this]
    rw [this, val_replicate_zero]
  conv => rhs; rw [e, val_append, hz]
  simp

/-- What is left when noughts at the end are cut off. -/
theorem limbs_take (xs : List Nat) (k : Nat) (hx : ∀ x ∈ xs, x < 4294967296) (hk : k ≤ xs.length) (h : ∀ j, k ≤ j → j < xs.length → xs[j]?.getD 0 = 0)
    (hl : 0 < k → xs[k - 1]?.getD 0 ≠ 0) : limbs (val xs) = xs.take k := by
  rw [← val_take xs k h]
  apply limbs_val
  · intro x hx'; exact hx x (List.mem_of_mem_take hx')
  · intro hne
    have h0 : 0 < k := by
      rcases Nat.eq_zero_or_pos k with rfl | h0
      · simp at hne
      · exact h0
    have hlen : (xs.take k).length = k := by simp; omega
    rw [hlen, List.getElem?_take, if_pos (by omega)]
    exact hl h0

theorem strip_eq (xs : List Nat) (k : Nat) (hx : ∀ x ∈ xs, x < 4294967296) (hk : k ≤ xs.length) (h : ∀ j, k ≤ j → j < xs.length → lb xs j = 0)
    (hl : 0 < k → lb xs (k - 1) ≠ 0) : limbs (val xs) = xs.take k := limbs_take xs k hx hk h hl

theorem lb_limbs (n j : Nat) : lb (limbs n) j = n / 4294967296 ^ j % 4294967296 := by
  unfold lb
  induction j generalizing n with
  | zero =>
    by_cases h : n = 0
    · subst h; rw [limbs_zero]; simp
    · rw [limbs_pos h]; simp
  | succ j ih =>
    by_cases h : n = 0
    · subst h; rw [limbs_zero]; simp
    · rw [limbs_pos h, Nat.pow_succ', ← Nat.div_div_eq_div_mul, ← ih]
      simp

/-- How two stand to each other: -1, 0, 1. -/
def cmpI (x y : Int) : Int := if x < y then -1 else if y < x then 1 else 0
/-- The i-th bit. -/
def bitN (n : Nat) (i : Int) : Nat := if i < 0 then 0 else n / 2 ^ i.toNat % 2

end Go.Proofs.YtfkcdmbiihkiiaaGreatDoor
/- A slice of 32-bit limbs that reads as a list of naturals; kept while what lay in memory is kept. -/
namespace Go.Proofs.YtfkcdmbiihkiiaaGreatDoor
open Go.RowKit

/-- The number n as a slice of its limbs. -/
def Un (w : World) (v : Value) (n : Nat) : Prop := U w v (limbs n)
theorem Un.below {w w' : World} {v : Value} {n : Nat} (h : Un w v n) (hb : Below w.heap.size w w') : Un w' v n := U.below h hb
end Go.Proofs.YtfkcdmbiihkiiaaGreatDoor
/- walks -/
namespace Go.Proofs.YtfkcdmbiihkiiaaGreatDoor
open Go.RowKit
set_option linter.unusedVariables false
set_option maxHeartbeats 400000
set_option maxRecDepth 100000

def rightB (xs : List Nat) : Bool := decide (xs.length ≤ 65536) && (xs.isEmpty || lb xs (xs.length - 1) != 0)

theorem bne_cast (a : Nat) : (((a : Nat) : Int) != 0) = (a != 0) := by
  rw [Bool.eq_iff_iff, bne_iff_ne, bne_iff_ne]; omega

theorem right_calls (w : World) (v : Value) (xs : List Nat) (h : U w v xs) :
    Calls Tryz.prog 56 #[v] w fun e w' => e = .returned (.bool (rightB xs)) ∧ w = w' := by
  obtain ⟨A, c, rfl, ⟨hc, hm⟩, hx, hr⟩ := h
  by_cases hlen : xs.length ≤ 65536
  · rcases Nat.eq_zero_or_pos xs.length with h0 | h0
    · obtain rfl := List.eq_nil_of_length_eq_zero h0
      go_enter Tryz.func56, Tryz.ntmps56
      go_wp2
      go_ret
      exact ⟨rfl, rfl⟩
    · obtain ⟨ad, rfl, hb, hcell⟩ := hr h0
      have hc1 := hcell (xs.length - 1) (by omega)
      have hne : (((xs.length : Nat) : Int) == 0) = false := by rw [beq_eq_false_iff_ne]; omega
      have hres : rightB xs = (lb xs (xs.length - 1) != 0) := by
        unfold rightB
        have : xs.isEmpty = false := by cases xs <;> simp_all
        simp [hlen, this]
      have HR := Lib.hid hres
      clear hres
      go_enter Tryz.func56, Tryz.ntmps56
      go_wp2
      go_ret
      exact ⟨by rw [HR.out, ← bne_cast]; rfl, rfl⟩
  · have hres : rightB xs = false := by unfold rightB; simp [hlen]
    have HR := Lib.hid hres
    clear hres
    go_enter Tryz.func56, Tryz.ntmps56
    go_wp2
    go_ret
    exact ⟨by rw [HR.out]; rfl, rfl⟩

theorem make_calls (w : World) (v : Value) (xs : List Nat) (h : U w v xs) :
    Calls Tryz.prog 58 #[v] w fun e w' => (∃ u, e = .returned u ∧ U w u (limbs (val xs))) ∧ w = w' := by
  have h' := h
  obtain ⟨A, c, rfl, ⟨hc, hm⟩, hx, hr⟩ := h
  go_enter Tryz.func58, Tryz.ntmps58
  go_wp2
  go_loop [3] (fun n => ∃ k : Nat, k ≤ xs.length ∧ n = .int .i64 k ∧ Hid (∀ j, k ≤ j → j < xs.length → lb xs j = 0)) (fun n => (intOf n).toNat)
  case atStart => exact ⟨xs.length, Nat.le_refl _, rfl, fun j h1 h2 => by omega⟩
  case round =>
    obtain ⟨k, hk, rfl, hz⟩ := hrel
    have hfin : ∀ c', k ≤ c' → (0 < k → lb xs (k - 1) ≠ 0) → U w (.slice A k c') (limbs (val xs)) := fun c' h1 h2 => by
      rw [strip_eq xs k hx hk hz.out h2]; exact h'.take hk h1
    rcases Nat.eq_zero_or_pos k with rfl | h0
    · have HF := Lib.hid (hfin 0 (Nat.le_refl _) (fun h => absurd h (by omega)))
      clear hfin
      go_wp2
      go_ways
      go_ret
      exact ⟨⟨_, rfl, HF.out⟩, rfl⟩
    · obtain ⟨ad, rfl, hb, hcell⟩ := hr (by omega)
      have hc1 := hcell (k - 1) (by omega)
      by_cases hx0 : lb xs (k - 1) = 0
      · have ht : ((((lb xs (k - 1) : Nat)) : Int) == 0) = true := by rw [hx0]; rfl
        have HX := Lib.hid hx0
        clear hx0
        go_wp2
        go_round
        case rel => exact ⟨k - 1, by omega, by go_num, fun j h1 h2 => by
          rcases Nat.lt_or_ge j k with h3 | h3
          · have : j = k - 1 := by omega
            subst this; exact HX.out
          · exact hz.out j h3 h2⟩
        case measure => simp [intOf]; omega
      · have ht : ((((lb xs (k - 1) : Nat)) : Int) == 0) = false := by rw [beq_eq_false_iff_ne]; omega
        have HF := Lib.hid (hfin k (Nat.le_refl _) (fun _ => hx0))
        clear hfin hx0
        go_wp2
        go_ret
        exact ⟨⟨_, rfl, HF.out⟩, rfl⟩
end Go.Proofs.YtfkcdmbiihkiiaaGreatDoor
