/- Digits are read chunk by chunk: plain mathematics. -/
import Derived.Test.YtfkcdmbiihkiiaaGreatDoorBax
import Derived.Test.YtfkcdmbiihkiiaaGreatDoorBam
import Derived.Test.YtfkcdmbiihkiiaaGreatDoorBaq
import Derived.Test.YtfkcdmbiihkiiaaGreatDoorBay
import Derived.Test.YtfkcdmbiihkiiaaGreatDoorBaz
import Derived.Laws.IdiomStrings

namespace Go.Proofs.YtfkcdmbiihkiiaaGreatDoor
set_option linter.unusedVariables false
set_option maxHeartbeats 400000

theorem chunk_mod (L n k : Nat) (hn : 1 ≤ n) (hL : 1 ≤ L) (hk : (L - 1) % n + 1 = k) : k ≤ n ∧ k ≤ L ∧ (L - k) % n = 0 := by
  have h1 := Nat.mod_lt (L - 1) (show n > 0 by omega)
  have h2 := Nat.mod_le (L - 1) n
  have h3 := Nat.div_add_mod (L - 1) n
  have h4 : L - k = n * ((L - 1) / n) := by omega
  exact ⟨by omega, by omega, by rw [h4]; exact Nat.mul_mod_right _ _⟩
theorem chunk_full (L n k : Nat) (hn : 1 ≤ n) (hL : 1 ≤ L) (h0 : L % n = 0) (hk : (L - 1) % n + 1 = k) : k = n := by
  obtain ⟨h1, h2, h3⟩ := chunk_mod L n k hn hL hk
  have a1 := Nat.div_add_mod L n
  have a2 := Nat.div_add_mod (L - k) n
  rw [h0] at a1
  rw [h3] at a2
  have e : n * (L / n) = n * ((L - k) / n) + k := by omega
  have e2 : n * (L / n) - n * ((L - k) / n) = k := by omega
  rw [← Nat.mul_sub] at e2
  have hk0 : 1 ≤ k := by omega
  rcases Nat.eq_zero_or_pos (L / n - (L - k) / n) with h | h
  · rw [h, Nat.mul_zero] at e2; omega
  · have := Nat.mul_le_mul_left n h
    rw [Nat.mul_one] at this
    omega
/-- The first i digits are read. -/
structure RdI (b n : Nat) (ds : List Nat) (i a : Nat) : Prop where
  le : i ≤ ds.length
  val : a = bval b (ds.take i)
  at_ : i = 0 ∨ (ds.length - i) % n = 0
theorem RdI.start (b n : Nat) (ds : List Nat) : RdI b n ds 0 0 := ⟨Nat.zero_le _, rfl, .inl rfl⟩
theorem RdI.step {b n : Nat} {ds : List Nat} {i a : Nat} (h : RdI b n ds i a) (hn : 1 ≤ n) (hi : i < ds.length) (k : Nat) (hk : (ds.length - i - 1) % n + 1 = k) :
    k ≤ n ∧ i + k ≤ ds.length ∧ RdI b n ds (i + k) (a * b ^ n + bval b ((ds.drop i).take k)) := by
  obtain ⟨h1, h2, h3⟩ := chunk_mod (ds.length - i) n k hn (by omega) hk
  refine ⟨h1, by omega, by omega, ?_, .inr (by rw [show ds.length - (i + k) = ds.length - i - k by omega]; exact h3)⟩
  have e : ds.take (i + k) = ds.take i ++ (ds.drop i).take k := List.take_add
  rw [e, bval_append, h.val]
  have hl : ((ds.drop i).take k).length = k := by rw [List.length_take, List.length_drop]; omega
  rw [hl]
  rcases h.at_ with h0 | h0
  · subst h0
    rw [List.take_zero, bval_nil, Nat.zero_mul, Nat.zero_mul]
  · rw [chunk_full (ds.length - i) n k hn (by omega) h0 hk]
theorem RdI.done {b n : Nat} {ds : List Nat} {a : Nat} (h : RdI b n ds ds.length a) : a = bval b ds := by
  rw [h.val, List.take_length]
/-- One digit of a chunk more. -/
theorem chunk_push (b : Nat) (cs : List Nat) (j : Nat) (h : j < cs.length) : bval b (cs.take (j + 1)) = bval b (cs.take j) * b + lb cs j := by
  have e : cs.take (j + 1) = cs.take j ++ [cs[j]] := (List.take_append_getElem h).symm
  rw [e, bval_push]
  unfold lb
  simp [h]
theorem chunk_fits (b n p : Nat) (hS : Sc b n p) (cs : List Nat) (hl : cs.length ≤ n) (h : ∀ d ∈ cs, d < b) : bval b cs < 4294967296 := by
  have h1 := bval_lt b cs h
  have h2 : b ^ cs.length ≤ b ^ n := Nat.pow_le_pow_right (by have := hS.b2; omega) hl
  have h3 := hS.fit
  rw [hS.pw] at h3
  omega
/-- A number's digits cut in two, at a whole power. -/
theorem bval_cut (b : Nat) (ds : List Nat) (c : Nat) (h : c ≤ ds.length) : bval b ds = bval b (ds.take c) * b ^ (ds.length - c) + bval b (ds.drop c) := by
  have := bval_append b (ds.take c) (ds.drop c)
  rw [List.take_append_drop, List.length_drop] at this
  exact this
end Go.Proofs.YtfkcdmbiihkiiaaGreatDoor
/- The document's own small functions: Base, Digit, Byte, Of. -/
namespace Go.Proofs.YtfkcdmbiihkiiaaGreatDoor
open Go.RowKit
set_option linter.unusedVariables false
set_option maxHeartbeats 400000

theorem rbase_calls (w : World) (b : Nat) (h2 : 2 ≤ b) (h36 : b ≤ 36) :
    Calls Tryz.prog 106 #[.int .i64 (b : Nat)] w fun e w' => e = .returned (.bool true) ∧ w' = w := by
  have h1 : (2 : Int) ≤ (b : Int) := by omega
  have h3 : (b : Int) ≤ 36 := by omega
  go_enter Tryz.func106, Tryz.ntmps106
  go_wp2
  go_ret
  exact ⟨by simp, rfl⟩
set_option maxRecDepth 100000 in
theorem rbyte_calls (w : World) (d : Nat) (h : d < 36) :
    Calls Tryz.prog 111 #[.int .i64 (d : Nat)] w fun e w' => e = .returned (.int .u8 (digB d : Nat)) ∧ w' = w := by
  have hw : digB d = if d < 10 then 48 + d else 87 + d := rfl
  generalize digB d = r at *
  by_cases hd : d < 10
  · obtain rfl : r = 48 + d := by rw [hw, if_pos hd]
    clear hw
    go_enter Tryz.func111, Tryz.ntmps111
    go_wp2
    go_ret
    exact ⟨by go_num, rfl⟩
  · obtain rfl : r = 87 + d := by rw [hw, if_neg hd]
    clear hw
    go_enter Tryz.func111, Tryz.ntmps111
    go_wp2
    go_ret
    exact ⟨by go_num, rfl⟩
set_option maxRecDepth 100000 in
theorem rdigit_calls (w : World) (c : Nat) (h : c < 256) :
    Calls Tryz.prog 107 #[.int .u8 (c : Nat)] w fun e w' => e = .returned (.int .i64 (worB c : Nat)) ∧ w' = w := by
  have hc : c ≤ 47 ∨ (48 ≤ c ∧ c ≤ 57) ∨ (58 ≤ c ∧ c ≤ 96) ∨ (97 ≤ c ∧ c ≤ 122) ∨ 123 ≤ c := by omega
  have hw : worB c = if 48 ≤ c ∧ c ≤ 57 then c - 48 else if 97 ≤ c ∧ c ≤ 122 then c - 97 + 10 else 99 := rfl
  generalize worB c = r at *
  rcases hc with hc | hc | hc | hc | hc
  · obtain rfl : r = 99 := by rw [hw, if_neg (by omega), if_neg (by omega)]
    clear hw
    go_enter Tryz.func107, Tryz.ntmps107
    go_wp2
    go_ret
    exact ⟨rfl, rfl⟩
  · obtain rfl : r = c - 48 := by rw [hw, if_pos (by omega)]
    obtain ⟨d, rfl⟩ : ∃ d, c = d + 48 := ⟨c - 48, by omega⟩
    clear hw
    go_enter Tryz.func107, Tryz.ntmps107
    go_wp2
    go_ret
    exact ⟨by go_num, rfl⟩
  · obtain rfl : r = 99 := by rw [hw, if_neg (by omega), if_neg (by omega)]
    clear hw
    go_enter Tryz.func107, Tryz.ntmps107
    go_wp2
    go_ret
    exact ⟨rfl, rfl⟩
  · obtain rfl : r = c - 97 + 10 := by rw [hw, if_neg (by omega), if_pos (by omega)]
    obtain ⟨d, rfl⟩ : ∃ d, c = d + 97 := ⟨c - 97, by omega⟩
    clear hw
    go_enter Tryz.func107, Tryz.ntmps107
    go_wp2
    go_ret
    exact ⟨by go_num, rfl⟩
  · obtain rfl : r = 99 := by rw [hw, if_neg (by omega), if_neg (by omega)]
    clear hw
    go_enter Tryz.func107, Tryz.ntmps107
    go_wp2
    go_ret
    exact ⟨rfl, rfl⟩
end Go.Proofs.YtfkcdmbiihkiiaaGreatDoor
/- The document's Worth: digits modulo a prime. -/
namespace Go.Proofs.YtfkcdmbiihkiiaaGreatDoor
open Go.RowKit
set_option linter.unusedVariables false
set_option maxHeartbeats 400000

theorem strD_at (ds : List Nat) (h : ∀ d ∈ ds, d < 36) (i : Nat) (hi : i < (strD ds).size) : ((strD ds)[i]'hi).toNat = digB (lb ds i) := by
  have hi2 : i < ds.length := by rwa [strD_size] at hi
  have e : (strD ds)[i]'hi = UInt8.ofNat (digB (ds[i]'hi2)) := by
    show ((byteL ds).toArray)[i]'_ = _
    simp [byteL]
  rw [e, digB_nat (h _ (List.getElem_mem hi2))]
  unfold lb
  simp [hi2]
theorem lb_mem (ds : List Nat) (i : Nat) (h : i < ds.length) : lb ds i ∈ ds := by
  unfold lb
  simp [h]
end Go.Proofs.YtfkcdmbiihkiiaaGreatDoor
/- What a byte is worth; a base's scale. -/
namespace Go.Proofs.YtfkcdmbiihkiiaaGreatDoor
open Go.RowKit
set_option linter.unusedVariables false
set_option maxHeartbeats 400000

set_option maxRecDepth 100000 in
theorem worth_calls (w : World) (c : Nat) (h : c < 256) :
    Calls Tryz.prog 103 #[.int .u8 (c : Nat)] w fun e w' => e = .returned (.int .u32 (worB c : Nat)) ∧ w' = w := by
  have hc : c ≤ 47 ∨ (48 ≤ c ∧ c ≤ 57) ∨ (58 ≤ c ∧ c ≤ 96) ∨ (97 ≤ c ∧ c ≤ 122) ∨ 123 ≤ c := by omega
  have hw : worB c = if 48 ≤ c ∧ c ≤ 57 then c - 48 else if 97 ≤ c ∧ c ≤ 122 then c - 97 + 10 else 99 := rfl
  generalize worB c = r at *
  rcases hc with hc | hc | hc | hc | hc
  · obtain rfl : r = 99 := by rw [hw, if_neg (by omega), if_neg (by omega)]
    clear hw
    go_enter Tryz.func103, Tryz.ntmps103
    go_wp2
    go_ret
    exact ⟨rfl, rfl⟩
  · obtain rfl : r = c - 48 := by rw [hw, if_pos (by omega)]
    obtain ⟨d, rfl⟩ : ∃ d, c = d + 48 := ⟨c - 48, by omega⟩
    clear hw
    go_enter Tryz.func103, Tryz.ntmps103
    go_wp2
    go_ret
    exact ⟨by go_num, rfl⟩
  · obtain rfl : r = 99 := by rw [hw, if_neg (by omega), if_neg (by omega)]
    clear hw
    go_enter Tryz.func103, Tryz.ntmps103
    go_wp2
    go_ret
    exact ⟨rfl, rfl⟩
  · obtain rfl : r = c - 97 + 10 := by rw [hw, if_neg (by omega), if_pos (by omega)]
    obtain ⟨d, rfl⟩ : ∃ d, c = d + 97 := ⟨c - 97, by omega⟩
    clear hw
    go_enter Tryz.func103, Tryz.ntmps103
    go_wp2
    go_ret
    exact ⟨by go_num, rfl⟩
  · obtain rfl : r = 99 := by rw [hw, if_neg (by omega), if_neg (by omega)]
    clear hw
    go_enter Tryz.func103, Tryz.ntmps103
    go_wp2
    go_ret
    exact ⟨rfl, rfl⟩
end Go.Proofs.YtfkcdmbiihkiiaaGreatDoor
/- A small piece of digits is read. -/
namespace Go.Proofs.YtfkcdmbiihkiiaaGreatDoor
open Go.RowKit
set_option linter.unusedVariables false
set_option maxHeartbeats 400000

theorem strD_take (es : List Nat) (k : Nat) : (strD es).extract 0 k = strD (es.take k) := by
  show (ByteArray.mk (byteL es).toArray).extract 0 k = ByteArray.mk (byteL (es.take k)).toArray
  rw [ByteArray.extract_mk, List.drop_zero, Nat.sub_zero]
  simp [byteL, List.map_take]
theorem strD_drop (es : List Nat) (k : Nat) : (strD es).extract k (strD es).size = strD (es.drop k) := by
  rw [strD_size]
  show (ByteArray.mk (byteL es).toArray).extract k es.length = ByteArray.mk (byteL (es.drop k)).toArray
  rw [ByteArray.extract_mk, List.take_of_length_le (by rw [List.length_drop, byteL_len]; exact Nat.le_refl _)]
  simp [byteL, List.map_drop]
/-- A text as a row of bytes. -/
theorem bytes_of (wr : World) (cs : List Nat) (hd : ∀ d ∈ cs, d < 36) : ∃ cap w1, (convert 9 85 (.string (strD cs))).run Tryz.prog wr = .ok (.slice (some ⟨wr.heap.size, 0, none⟩) cs.length cap) w1 ∧ Ext wr w1 ∧ wr.heap.size < w1.heap.size ∧
    ∀ j, j < cs.length → w1.cell? ⟨wr.heap.size, j, none⟩ = some (.int .u8 (digB (lb cs j) : Nat)) := by
  have h := run_bytes_of_string (P := Tryz.prog) wr 9 85 5 (strD cs) Tryz.underlying9 Tryz.underlying85 Tryz.underlying5
  generalize grownCap wr (strD cs).size 0 5 = cap at h
  have hE : Ext wr (wr.drew.alloc (.cells (bytesRow (strD cs) cap) 5 ((bytesRow (strD cs) cap).size, (bytesRow (strD cs) cap).size + 1))) := ((Ext.refl wr).drew).alloc _
  refine ⟨cap, _, by rw [h, strD_size], hE, by simp, fun j hj => ?_⟩
  have hj2 : j < (strD cs).data.size := by
    show j < ((byteL cs).toArray).size
    rw [List.size_toArray, byteL_len]; exact hj
  have h1 := World.cell?_alloc_mark wr.drew (bytesRow (strD cs) cap) 5 ((bytesRow (strD cs) cap).size, (bytesRow (strD cs) cap).size + 1) j
  rw [bytesRow_at (strD cs) cap j hj2] at h1
  have h2 : ((strD cs).data[j]'hj2).toNat = digB (lb cs j) := strD_at cs hd j hj2
  rw [h2] at h1
  exact h1
theorem rd_len {b n p i a : Nat} {ds : List Nat} (hS : Sc b n p) (hd : ∀ d ∈ ds, d < b) (hl : ds.length ≤ 16 * n) (h : RdI b n ds i a) : (limbs a).length ≤ 398 := by
  have h1 := bval_lt b (ds.take i) (fun d hd2 => hd d (List.mem_of_mem_take hd2))
  have hle := h.le
  have h2 : (ds.take i).length ≤ 16 * n := by rw [List.length_take]; omega
  have h3 : b ^ (ds.take i).length ≤ b ^ (16 * n) := Nat.pow_le_pow_right (by have := hS.b2; omega) h2
  have h4 : b ^ (16 * n) = p ^ 16 := by rw [hS.pw, ← Nat.pow_mul, Nat.mul_comm]
  have h5 : p ^ 16 ≤ LB ^ 16 := Nat.pow_le_pow_left (by have := hS.fit; unfold LB; omega) 16
  refine Nat.le_trans (len_of (k := 16) ?_) (by omega)
  rw [h.val]
  omega
theorem sl_one_len {p : Nat} (h : p < 4294967296) : (limbs p).length ≤ 398 := Nat.le_trans (len_of (k := 1) (by unfold LB; simpa using h)) (by omega)

set_option maxRecDepth 100000 in
set_option maxHeartbeats 4000000 in
theorem readS_calls (w : World) (b n p : Nat) (hS : Sc b n p) (ds : List Nat) (hd : ∀ d ∈ ds, d < b) (hl : ds.length ≤ 16 * n) :
    Calls Tryz.prog 105 #[SV b n p, .string (strD ds)] w fun e w' => ∃ u, e = .returned u ∧ Un w' u (bval b ds) ∧ Ext w w' := by
  have hn31 := hS.n32
  have hn1 := hS.n1
  have hb36 := hS.b36
  have hp2 := hS.p2
  have hpf := hS.fit
  have hd36 : Hid (∀ d ∈ ds, d < 36) := fun d h => by have := hd d h; omega
  have HDB := Lib.hid hd
  have hE0 := (Ext.refl w).alloc (.cells #[.int .u32 (b : Nat), .int .i64 (n : Nat), .int .u32 (p : Nat)] 80)
  have hSx := SBx.new w b n p
  obtain ⟨L, hL⟩ : ∃ L, ds.length = L := ⟨_, rfl⟩
  have HL := Lib.hid hL
  have HR0 := Lib.hid (RdI.start b n ds)
  have hsz0 := strD_size ds
  have hS0 : Hid (strD ds = strD (ds.drop 0)) := by rw [List.drop_zero]; rfl
  have hLn := Lib.hid (fun i a (h : RdI b n ds i a) => rd_len hS hd hl h)
  rw [hL] at hsz0 hl
  generalize strD ds = S0 at *
  clear hd hL
  have hnil := Un_nil (w.alloc (.cells #[.int .u32 (b : Nat), .int .i64 (n : Nat), .int .u32 (p : Nat)] 80))
  go_enter Tryz.func105, Tryz.ntmps105
  go_wp2
  generalize (w.alloc (.cells #[.int .u32 (b : Nat), .int .i64 (n : Nat), .int .u32 (p : Nat)] 80)) = w1 at *
  go_loopw [1, 5] (fun t s wr => ∃ (i a x : Nat) (S : ByteArray), t = .string S ∧ Hid (S = strD (ds.drop i)) ∧ S.size = x ∧ Hid (i + x = L) ∧ Un wr s a ∧ Hid (RdI b n ds i a) ∧ SBx wr w.heap.size b n p ∧ Ext w wr) (fun t _ _ => match t with | .string S => S.size | _ => 0)
  case atStart => exact ⟨0, 0, L, S0, rfl, hS0, hsz0, Nat.zero_add _, hnil, HR0, hSx, hE0⟩
  case round =>
    clear HR0 hnil hSx hE0 hsz0 hS0
    obtain ⟨i, a, x, S, rfl, HS, hsz, hix, hua, HR, hSx, hE⟩ := hrel
    obtain ⟨A, l, c, rfl⟩ := U.sl hua
    by_cases hx0 : x = 0
    · subst hx0
      have HU : Hid (Un wr (.slice A l c) (bval b ds)) := by
        have hiL : i = ds.length := by have := hix.out; have := HL.out; omega
        have hR := HR.out
        subst hiL
        rw [← hR.done]
        exact hua
      clear HR hua hix HS
      go_wp2
      go_ret
      exact ⟨_, rfl, HU.out, hE⟩
    · obtain ⟨s0, s1, s2, s3⟩ := id hSx
      obtain ⟨k, hk⟩ : ∃ k, (x - 1) % n + 1 = k := ⟨_, rfl⟩
      have hiL : i < ds.length := by have := hix.out; have := HL.out; omega
      have hstep := HR.out.step hn1 hiL k (by rw [show ds.length - i - 1 = x - 1 by have := hix.out; have := HL.out; omega]; exact hk)
      obtain ⟨cs, hcs⟩ : ∃ cs, (ds.drop i).take k = cs := ⟨_, rfl⟩
      rw [hcs, ← hS.pw] at hstep
      obtain ⟨hkn, hik, hR2⟩ := hstep
      have hx5 : x ≤ 496 := by have := hix.out; have := HL.out; omega
      have hkx : k ≤ x := by have := hix.out; have := HL.out; omega
      have hcl : cs.length = k := by rw [← hcs, List.length_take, List.length_drop]; have := hix.out; have := HL.out; omega
      have hcb : ∀ d ∈ cs, d < b := fun d h => HDB.out d (List.mem_of_mem_drop (List.mem_of_mem_take (by rw [hcs]; exact h)))
      have hT : S.extract 0 k = strD cs := by rw [HS.out, strD_take, hcs]
      have hSd : S.extract k x = strD (ds.drop (i + k)) := by rw [← hsz, HS.out, strD_drop, List.drop_drop]
      obtain ⟨S2, hS2⟩ : ∃ S2, S.extract k x = S2 := ⟨_, rfl⟩
      rw [hS2] at hSd
      have HSd := Lib.hid hSd
      have hs2z : Hid (S2.size = x - k) := by
        show S2.size = x - k
        rw [hSd, strD_size, List.length_drop]
        have := hix.out
        have := HL.out
        omega
      have hk1 : 1 ≤ k := by omega
      obtain ⟨cap, wa, hcv, hEa, hga, hcell⟩ := bytes_of wr cs (fun d h => by have := hcb d h; omega)
      rw [hcl] at hcv
      have o1 : (x : Int) - 1 = ((x - 1 : Nat) : Int) := by omega
      obtain ⟨y, hy⟩ : ∃ y, x - 1 = y := ⟨_, rfl⟩
      rw [hy] at hk o1
      obtain ⟨r, hr⟩ : ∃ r, y % n = r := ⟨_, rfl⟩
      rw [hr] at hk
      have o2 : (y : Int).tmod (n : Int) = (r : Int) := by rw [Int.tmod_eq_emod_of_nonneg (Int.natCast_nonneg _), ← hr, Int.natCast_emod]
      have o3 : (y : Int) % (n : Int) = (r : Int) := by rw [← hr, Int.natCast_emod]
      have o4 : (r : Int) + 1 = (k : Int) := by omega
      have o5 : ¬ ((n : Int) = 0) := by omega
      have o6 : (0 : Int) < (x : Int) := by omega
      have o7 : y ≤ 496 := by omega
      have o8 : r ≤ 31 := by have := Nat.mod_lt y (show n > 0 by omega); omega
      have HR2 := Lib.hid hR2
      have HC := Lib.hid hcell
      have HCL := Lib.hid hcl
      have HCB := Lib.hid hcb
      have hua1 : Un wa (.slice A l c) a := hua.below hEa
      have hSx1 := hSx.ext hEa
      have hE1 := hE.below hEa
      have hla := Lib.hid (hLn.out i a HR.out)
      have HS2 := Lib.hid hS2
      have hsz2 := Lib.hid hsz
      clear hS2
      have hst : Hid (strD cs = S.extract 0 k) := hT.symm
      have hxk := Lib.hid hkx
      generalize strD cs = T at *
      have hst2 := Lib.hid (strD_take cs k)
      clear hy hr hk hR2 hcell hcl hcb hcs hua hE hEa HR HS hSd hx0 hst2 hst
      go_wp2
      clear hcv hT hsz o1 o2 o3 o4 o5 o6 o7 o8
      generalize wr.heap.size = G at *
      have hch0 : Hid (0 = bval b (cs.take 0)) := by rw [List.take_zero]; rfl
      go_loopw [25, 7] (fun t s w4 => ∃ (j ch : Nat), j ≤ k ∧ t = .int .i64 (j : Nat) ∧ s = .int .u64 (ch : Nat) ∧ ch < 4294967296 ∧ Hid (ch = bval b (cs.take j)) ∧ Ext wa w4) (fun t _ _ => k - (intOf t).toNat)
      case atStart => exact ⟨0, 0, Nat.zero_le _, rfl, rfl, by omega, hch0, Ext.refl _⟩
      case round =>
        clear hch0
        obtain ⟨j, ch, hj, rfl, rfl, hchb, HO, hE4⟩ := hrel
        by_cases hlt : j < k
        · have hj1 : (j : Int) < (k : Int) := by omega
          have hj0 : (0 : Int) ≤ (j : Int) := by omega
          have hc4 := (hE4.cell (p := ⟨G, j, none⟩) hga).trans (HC.out j (by have := HCL.out; omega))
          have hpush := chunk_push b cs j (by rw [HCL.out]; exact hlt)
          have hdb : lb cs j < b := HCB.out _ (lb_mem cs j (by rw [HCL.out]; exact hlt))
          obtain ⟨d, hd⟩ : ∃ d, lb cs j = d := ⟨_, rfl⟩
          rw [hd] at hc4 hpush hdb
          have hd36 : d < 36 := by omega
          have hwd := worB_digB hd36
          have hdl := digB_lt hd36
          obtain ⟨y, hy⟩ : ∃ y, ch * b = y := ⟨_, rfl⟩
          rw [← HO.out, hy] at hpush
          have hnew : y + d < 4294967296 := by
            rw [← hpush]
            exact chunk_fits b n p hS (cs.take (j + 1)) (by rw [List.length_take, HCL.out]; omega) (fun d h => HCB.out d (List.mem_of_mem_take h))
          obtain ⟨z, hz⟩ : ∃ z, y + d = z := ⟨_, rfl⟩
          rw [hz] at hpush hnew
          have o1 : (ch : Int) * (b : Int) = (y : Int) := by rw [← hy]; exact (Int.natCast_mul ch b).symm
          have o2 := u64_fit (show y < 18446744073709551616 by omega)
          have o3 := u64_mod (show b < 18446744073709551616 by omega)
          have o4 := u64_fit (show b < 18446744073709551616 by omega)
          have o5 := u64_fit (show d < 18446744073709551616 by omega)
          have o6 := u64_mod (show d < 18446744073709551616 by omega)
          have o7 : (y : Int) + (d : Int) = (z : Int) := by omega
          have o8 := u64_fit (show z < 18446744073709551616 by omega)
          have o9 := u64_mod (show y < 18446744073709551616 by omega)
          have o10 := u64_mod (show z < 18446744073709551616 by omega)
          obtain ⟨q0, q1, q2, q3⟩ := hSx1.ext hE4
          have HST : Hid (z = bval b (cs.take (j + 1))) := hpush.symm
          generalize digB d = D at *
          clear hd hy hz hpush hchb HO s0 s1 s2 s3
          go_wp2_with (fail)
          have hD256 : D < 256 := by omega
          have hwc := fun W => worth_calls W D hD256
          rw [hwd] at hwc
          go_quiet (first | (go_at_call 103; refine Calls.quiet_of_same (hwc _)))
          go_wp2
          go_roundw
          case rel => exact ⟨j + 1, z, by omega, by go_num, rfl, hnew, HST, hE4.below (ext_drewN _ _)⟩
          case measure => simp [intOf]; omega
        · obtain rfl : j = k := by omega
          have hchv : ch = bval b cs := by rw [HO.out, ← HCL.out, List.take_length]
          have hHR : Hid (RdI b n ds (i + j) (a * p + ch)) := by rw [hchv]; exact HR2.out
          have hla2 := Lib.hid (hLn.out _ _ hHR.out)
          have hua4 : Un wr (.slice A l c) a := hua1.below hE4
          have hp5 := un_one wr p (by omega) hpf
          have hua5 := Un.alloc hua4 (.cells #[.int .u32 (p : Nat)] 56)
          obtain ⟨q0, q1, q2, q3⟩ := hSx1.ext hE4
          have hSx4 := hSx1.ext hE4
          have hE5 := (hE1.below hE4).alloc (.cells #[.int .u32 (p : Nat)] 56)
          have hSx5 := hSx4.ext ((Ext.refl wr).alloc (.cells #[.int .u32 (p : Nat)] 56))
          have hlap : Hid ((limbs (a * p)).length ≤ 1000000000) := Nat.le_trans (len_mono (Nat.le_add_right _ ch)) (Nat.le_trans hla2.out (by omega))
          have hlch : Hid ((limbs ch).length ≤ 1000000000) := Nat.le_trans (sl_one_len hchb) (by omega)
          have hs2e := HS2.out
          have hxk2 := hxk.out
          obtain ⟨x2, hx2⟩ : ∃ x2, x - j = x2 := ⟨_, rfl⟩
          have hix2 : Hid (i + j + x2 = L) := by have := hix.out; show i + j + x2 = L; omega
          rw [hx2] at hs2z
          have hx2l : Hid (x2 < x) := by show x2 < x; omega
          have hlp := Lib.hid (sl_one_len hpf)
          clear HO hchv hua4 hSx4 hx2 hSx hE1 hE4 hix hlt s0 s1 s2 s3 hs2e hxk2
          have hs2e := HS2.out
          have hxk2 := hxk.out
          have hsz := hsz2.out
          go_wp2_with (first
            | (go_at_call 65; refine (mulN _ _ _ a p _ hua5 hp5 hla.out hlp.out rfl).mono ?_; rintro e w6 ⟨u6, rfl, hu6, hE6⟩; obtain ⟨A6, l6, c6, rfl⟩ := U.sl hu6)
            | (go_at_call 78; refine (of_B _ (ch : Int) (by omega) (by omega) ch (by omega)).mono ?_; rintro e w7 ⟨u7, rfl, hu7, hE7⟩; obtain ⟨A7, l7, c7, rfl⟩ := U.sl hu7; have hu67 := Un.below hu6 hE7)
            | (go_at_call 51; refine (add_B _ _ _ (a * p) ch hu67 hu7 hlap.out hlch.out _ rfl).mono ?_; rintro e w8 ⟨u8, rfl, hu8, hE8⟩; obtain ⟨A8, l8, c8, rfl⟩ := U.sl hu8))
          go_roundw
          case rel => exact ⟨i + j, a * p + ch, x2, S2, rfl, HSd, hs2z.out, hix2, hu8, hHR, ((hSx5.ext hE6).ext hE7).ext hE8, ((hE5.below hE6).below hE7).below hE8⟩
          case measure =>
            show S2.size < S.size
            rw [hsz, hs2z.out]
            exact hx2l.out
end Go.Proofs.YtfkcdmbiihkiiaaGreatDoor
/- Digits are read: two halves are joined. -/
namespace Go.Proofs.YtfkcdmbiihkiiaaGreatDoor
open Go.RowKit
set_option linter.unusedVariables false
set_option maxHeartbeats 400000

/-- The function value that joins. -/
abbrev Jfn (S Jb Pb : Nat) : Value := .func (.func 104) #[] #[.pointer (some ⟨S, 0, none⟩), .pointer (some ⟨Jb, 0, none⟩), .pointer (some ⟨Pb, 0, none⟩)]
/-- The two boxes of functions. -/
def Jx (S Jb Pb Bk : Nat) (w : World) : Prop := (Jb < w.heap.size ∧ w.cell? ⟨Jb, 0, none⟩ = some (Jfn S Jb Pb)) ∧ (Pb < w.heap.size ∧ w.cell? ⟨Pb, 0, none⟩ = some (Pfn Bk))
theorem Jx.kee {B S Jb Pb Bk : Nat} {w w' : World} (h : Jx S Jb Pb Bk w) (k : Kee B w w') : Jx S Jb Pb Bk w' :=
  ⟨Fb.kee (f := Jfn S Jb Pb) h.1 k (by rintro ⟨_, _, _, e⟩; cases e), Fb.kee (f := Pfn Bk) h.2 k (by rintro ⟨_, _, _, e⟩; cases e)⟩
theorem Jx.ext {S Jb Pb Bk : Nat} {w w' : World} (h : Jx S Jb Pb Bk w) (k : Ext w w') : Jx S Jb Pb Bk w' := ⟨Fb.ext h.1 k, Fb.ext h.2 k⟩
theorem bv_len {b x k M : Nat} (hb : 2 ≤ b) (hx : x < b ^ k) (hk : k ≤ M) (hl : (limbs (b ^ M)).length ≤ 398) : (limbs x).length ≤ 398 := by
  have h1 : b ^ k ≤ b ^ M := Nat.pow_le_pow_right (by omega) hk
  exact Nat.le_trans (len_mono (by omega)) hl
theorem kp_len2 {b n i M : Nat} (hb : 2 ≤ b) (h : 16 * n * 2 ^ i ≤ M) (hl : (limbs (b ^ M)).length ≤ 398) : (limbs (kp b n i)).length ≤ 398 := by
  unfold kp
  exact Nat.le_trans (len_mono (Nat.pow_le_pow_right (by omega) h)) hl
theorem low_i {n i x : Nat} (hn : 1 ≤ n) (h : 16 * n * 2 ^ i = x) (hx : x < 20000) : i ≤ 11 := by
  rcases Nat.lt_or_ge i 12 with h1 | h1
  · omega
  · exfalso
    have h2 : 2 ^ 12 ≤ 2 ^ i := Nat.pow_le_pow_right (by decide) h1
    have h3 : 16 * 1 * 2 ^ 12 ≤ 16 * n * 2 ^ i := Nat.mul_le_mul (Nat.mul_le_mul_left 16 hn) h2
    have h4 : (2 : Nat) ^ 12 = 4096 := rfl
    omega
theorem low_le {n i j : Nat} (h : j ≤ i) : 16 * n * 2 ^ j ≤ 16 * n * 2 ^ i := Nat.mul_le_mul_left _ (Nat.pow_le_pow_right (by decide) h)

theorem keepJ {B S Jb Pb Bk : Nat} {w w' : World} (h : (Jb < w.heap.size ∧ w.cell? ⟨Jb, 0, none⟩ = some (.func (.func 104) #[] #[.pointer (some ⟨S, 0, none⟩), .pointer (some ⟨Jb, 0, none⟩), .pointer (some ⟨Pb, 0, none⟩)])) ∧ (Pb < w.heap.size ∧ w.cell? ⟨Pb, 0, none⟩ = some (.func (.func 114) #[] #[.pointer (some ⟨Bk, 0, none⟩)]))) (k : Kee B w w') :
    (Jb < w'.heap.size ∧ w'.cell? ⟨Jb, 0, none⟩ = some (.func (.func 104) #[] #[.pointer (some ⟨S, 0, none⟩), .pointer (some ⟨Jb, 0, none⟩), .pointer (some ⟨Pb, 0, none⟩)])) ∧ (Pb < w'.heap.size ∧ w'.cell? ⟨Pb, 0, none⟩ = some (.func (.func 114) #[] #[.pointer (some ⟨Bk, 0, none⟩)])) := Jx.kee (S := S) (Bk := Bk) h k
theorem keepJE {S Jb Pb Bk : Nat} {w w' : World} (h : (Jb < w.heap.size ∧ w.cell? ⟨Jb, 0, none⟩ = some (.func (.func 104) #[] #[.pointer (some ⟨S, 0, none⟩), .pointer (some ⟨Jb, 0, none⟩), .pointer (some ⟨Pb, 0, none⟩)])) ∧ (Pb < w.heap.size ∧ w.cell? ⟨Pb, 0, none⟩ = some (.func (.func 114) #[] #[.pointer (some ⟨Bk, 0, none⟩)]))) (k : Ext w w') :
    (Jb < w'.heap.size ∧ w'.cell? ⟨Jb, 0, none⟩ = some (.func (.func 104) #[] #[.pointer (some ⟨S, 0, none⟩), .pointer (some ⟨Jb, 0, none⟩), .pointer (some ⟨Pb, 0, none⟩)])) ∧ (Pb < w'.heap.size ∧ w'.cell? ⟨Pb, 0, none⟩ = some (.func (.func 114) #[] #[.pointer (some ⟨Bk, 0, none⟩)])) := Jx.ext (S := S) (Bk := Bk) h k

set_option maxRecDepth 100000 in
set_option maxHeartbeats 4000000 in
theorem rjoin_calls (B b n p S Jb Pb Bk M : Nat) (hS : Sc b n p) (hM : (limbs (b ^ M)).length ≤ 398) (hM2 : M ≤ 19000) : ∀ (L : Nat), L ≤ M → ∀ (w : World) (ds : List Nat) (K : Nat), ds.length = L → (∀ d ∈ ds, d < b) → SBx w S b n p → Jx S Jb Pb Bk w → Kp B b n w Bk K → B ≤ w.heap.size →
    Calls Tryz.prog 104 #[.string (strD ds), .pointer (some ⟨S, 0, none⟩), .pointer (some ⟨Jb, 0, none⟩), .pointer (some ⟨Pb, 0, none⟩)] w fun e w' => (∃ u, e = .returned u ∧ Un w' u (bval b ds)) ∧ (∃ K', Kp B b n w' Bk K') ∧ Kee B w w' := by
  intro L
  induction L using Nat.strongRecOn with
  | _ L ih =>
  intro hLM w ds K hL hd hSx hJ hKp hB
  have hb2 := hS.b2
  have hb36 := hS.b36
  have hn1 := hS.n1
  have hn31 := hS.n32
  have hsz := strD_size ds
  rw [hL] at hsz
  obtain ⟨s0, s1, s2, s3⟩ := id hSx
  by_cases hsm : L ≤ 16 * n
  · have hR := Lib.hid (fun W => readS_calls W b n p hS ds hd (by omega))
    generalize strD ds = T at *
    have hcmp : ((L : Int) ≤ 16 * (n : Int)) := by omega
    have HK := Lib.hid hKp
    clear ih hd hL hKp
    go_enter Tryz.func104, Tryz.ntmps104
    go_wp2_with (first
      | (go_at_call 87; refine (piece_calls _ b n p hS).mono ?_; rintro e w3 ⟨rfl, hE3⟩; obtain ⟨q0, q1, q2, q3⟩ := hSx.ext hE3)
      | (go_at_call 105; refine (hR.out _).mono ?_; rintro e w4 ⟨u, rfl, hu4, hE4⟩; obtain ⟨A4, l4, c4, rfl⟩ := U.sl hu4))
    go_ret
    exact ⟨⟨_, rfl, hu4⟩, ⟨K, (HK.out.ext hE3).ext hE4⟩, Kee.ofExt hB (hE3.below hE4)⟩
  · have HJ0 := Lib.hid hJ
    have HK := Lib.hid hKp
    have HD := Lib.hid hd
    have hL2 : L ≤ 19000 := by omega
    have HIH := Lib.hid ih
    have hcmp : ¬ ((L : Int) ≤ 16 * (n : Int)) := by omega
    have HL := Lib.hid hL
    have htk := fun k => strD_take ds k
    have hdr := fun k => strD_drop ds k
    rw [strD_size, hL] at hdr
    have HTK := Lib.hid htk
    have HDR := Lib.hid hdr
    generalize hTT : strD ds = T at *
    have HTT := Lib.hid hTT
    clear ih hd hKp hJ hL htk hdr hTT
    go_enter Tryz.func104, Tryz.ntmps104
    go_wp2_with (first
      | (go_at_call 87; refine (piece_calls _ b n p hS).mono ?_; rintro e w3 ⟨rfl, hE3⟩; first | (have hfirst : Ext w w3 := hE3; obtain ⟨q0, q1, q2, q3⟩ := hSx.ext hfirst) | (have hE0 := hfirst.below hE3; clear hE3 hfirst q0 q1 q2 q3)))
    have hi00 : 16 * n * 2 ^ 0 = 16 * n := by rw [Nat.pow_zero, Nat.mul_one]
    have hi0 := Lib.hid hi00
    have hlow0 : 16 * n < L := by omega
    clear hi00 hcmp s0 s1 s2 s3 hn31
    go_loopw [6, 7] (fun t s wr => ∃ i lw : Nat, t = .int .i64 (i : Nat) ∧ s = .int .i64 (lw : Nat) ∧ Hid (16 * n * 2 ^ i = lw) ∧ lw < L ∧ wr = w3) (fun _ s _ => L - (intOf s).toNat)
    case atStart => exact ⟨0, 16 * n, rfl, by go_num, hi0, hlow0, rfl⟩
    case round =>
      clear hi0 hlow0
      obtain ⟨i, lw, rfl, rfl, hi, hlw, rfl⟩ := hrel
      have hi11 := low_i hn1 hi.out (by omega)
      have hlw1 : 1 ≤ lw := by rw [← hi.out]; exact Nat.mul_pos (by omega) (Nat.two_pow_pos i)
      by_cases hgo : 2 * lw < L
      · have hi2 : Hid (16 * n * 2 ^ (i + 1) = 2 * lw) := by show _ = _; rw [Nat.pow_succ, ← Nat.mul_assoc, hi.out, Nat.mul_comm]
        have o1 : (2 : Int) * (lw : Int) < (L : Int) := by omega
        have o3 : IntKind.i64.wrap ((2 : Int) * (lw : Int)) = (2 : Int) * (lw : Int) := by rw [IntKind.wrap_i64]; omega
        clear hi
        go_wp2
        go_roundw
        case rel => exact ⟨i + 1, 2 * lw, by go_num, by go_num, hi2, hgo, by trivial⟩
        case measure => simp [intOf]; omega
      · obtain ⟨cut, hcut⟩ : ∃ cut, L - lw = cut := ⟨_, rfl⟩
        have hcut2 : L = cut + lw := by omega
        have hdl := HL.out
        obtain ⟨T1, hT1⟩ : ∃ T1, strD (ds.take cut) = T1 := ⟨_, rfl⟩
        obtain ⟨T2, hT2⟩ : ∃ T2, strD (ds.drop cut) = T2 := ⟨_, rfl⟩
        have ht1 : T.extract 0 cut = T1 := (HTK.out cut).trans hT1
        have ht2 : T.extract cut L = T2 := (HDR.out cut).trans hT2
        have hEd : Ext w wr.drew := hE0.drew
        have hJ0 : Jx S Jb Pb Bk wr.drew := HJ0.out.ext hEd
        have hSx0 := hSx.ext hEd
        have hKp0 := HK.out.ext hEd
        have hB0 : B ≤ wr.drew.heap.size := Nat.le_trans hB hEd.size
        have hl1n : (ds.take cut).length = cut := by rw [List.length_take]; omega
        have hl2n : (ds.drop cut).length = lw := by rw [List.length_drop]; omega
        have hd1 : ∀ d ∈ ds.take cut, d < b := fun d h => HD.out d (List.mem_of_mem_take h)
        have hd2 : Hid (∀ d ∈ ds.drop cut, d < b) := fun d h => HD.out d (List.mem_of_mem_drop h)
        have hv1 := bval_lt b _ hd1
        have hv2 := bval_lt b _ hd2.out
        rw [hl1n] at hv1
        rw [hl2n] at hv2
        have hl1 := Lib.hid (bv_len hb2 hv1 (show cut ≤ M by omega) hM)
        have hl4 := Lib.hid (Nat.le_trans (bv_len hb2 hv2 (show lw ≤ M by omega) hM) (show 398 ≤ 1000000000 by omega))
        have hl2 := Lib.hid (kp_len2 (n := n) (i := i) hb2 (show 16 * n * 2 ^ i ≤ M by rw [hi.out]; omega) hM)
        have hlim : Hid (∀ j, j < i → (limbs (kp b n j)).length ≤ 398) := fun j hj => kp_len2 hb2 (Nat.le_trans (low_le (Nat.le_of_lt hj)) (show 16 * n * 2 ^ i ≤ M by rw [hi.out]; omega)) hM
        have hval : bval b (ds.take cut) * kp b n i + bval b (ds.drop cut) = bval b ds := by
          have h := bval_cut b ds cut (by omega)
          rw [show ds.length - cut = lw by omega] at h
          unfold kp
          rw [hi.out]
          exact h.symm
        have hvlen : (limbs (bval b ds)).length ≤ 398 := bv_len hb2 (bval_lt b ds HD.out) (show ds.length ≤ M by omega) hM
        have hl3 : Hid ((limbs (bval b (ds.take cut) * kp b n i)).length ≤ 1000000000) := Nat.le_trans (len_mono (show bval b (ds.take cut) * kp b n i ≤ bval b ds by omega)) (Nat.le_trans hvlen (by omega))
        have HVAL := Lib.hid hval
        have HC1 := Lib.hid (HIH.out cut (by omega) (by omega) wr.drew (ds.take cut) K hl1n hd1 hSx0 hJ0 hKp0 hB0)
        have HC2' := Lib.hid (fun W K' h1 h2 h3 h4 => HIH.out lw hlw (by omega) W (ds.drop cut) K' hl2n hd2.out h1 h2 h3 h4)
        rw [hT1] at HC1
        rw [hT2] at HC2'
        generalize bval b (ds.take cut) = va at *
        generalize bval b (ds.drop cut) = vb at *
        have hS0 : (Jb < wr.drew.heap.size ∧ wr.drew.cell? ⟨Jb, 0, none⟩ = some (.func (.func 104) #[] #[.pointer (some ⟨S, 0, none⟩), .pointer (some ⟨Jb, 0, none⟩), .pointer (some ⟨Pb, 0, none⟩)])) ∧ (Pb < wr.drew.heap.size ∧ wr.drew.cell? ⟨Pb, 0, none⟩ = some (.func (.func 114) #[] #[.pointer (some ⟨Bk, 0, none⟩)])) := hJ0
        have o1 : ¬ ((2 : Int) * (lw : Int) < (L : Int)) := by omega
        have o3 : IntKind.i64.wrap ((2 : Int) * (lw : Int)) = (2 : Int) * (lw : Int) := by rw [IntKind.wrap_i64]; omega
        have o4 : (L : Int) - (lw : Int) = (cut : Int) := by omega
        have o5 : IntKind.i64.wrap (cut : Int) = (cut : Int) := by rw [IntKind.wrap_i64]; omega
        have o6 : (0 : Int) ≤ (cut : Int) := by omega
        have o7 : (cut : Int) ≤ (L : Int) := by omega
        have hK0 := Lib.hid (Kee.ofExt hB hEd)
        have hSx0H := Lib.hid hSx0
        have hi9 : i < 900 := by omega
        clear hcut hcut2 hdl hT1 hT2 hEd hJ0 hSx0 hKp0 hl1n hl2n hd1 hd2 hv1 hv2 hval hvlen hi hgo HIH HTK HDR hE0
        go_wp2_with (fail)
        go_region_held3 (fun X => (Jb < X.heap.size ∧ X.cell? ⟨Jb, 0, none⟩ = some (.func (.func 104) #[] #[.pointer (some ⟨S, 0, none⟩), .pointer (some ⟨Jb, 0, none⟩), .pointer (some ⟨Pb, 0, none⟩)])) ∧ (Pb < X.heap.size ∧ X.cell? ⟨Pb, 0, none⟩ = some (.func (.func 114) #[] #[.pointer (some ⟨Bk, 0, none⟩)])))
          (first
            | exact hS0
            | assumption
            | exact keepJ (by assumption) (by assumption)
            | exact keepJE (by assumption) (by assumption))
          (first
            | (go_at_call 104; ((with_reducible refine HC1.out.mono ?_); rintro e4 w4 ⟨⟨u4, rfl, hu4⟩, ⟨K4, hKp4⟩, hKe4⟩; obtain ⟨A4, l4, c4, rfl⟩ := U.sl hu4; have hP := Lib.hid (power_calls w4 B b n Bk K4 i hKp4 (Nat.le_trans hB0 hKe4.size) hi9 hlim.out)))
            | (go_at_call 114; ((with_reducible refine hP.out.mono ?_); rintro e5 w5 ⟨⟨u5, rfl, hu5⟩, ⟨K5, hx1, hx2, hKp5⟩, hKe5, hx3⟩; obtain ⟨A5, l5, c5, rfl⟩ := U.sl hu5; have hMu := Lib.hid (mulN w5 _ _ _ _ _ (Un.kee hu4 hKe5) hu5 hl1.out hl2.out rfl); have hK5 := Lib.hid ((hK0.out.trans hKe4).trans hKe5); clear hx3))
            | (go_at_call 65; ((with_reducible refine hMu.out.mono ?_); rintro e6 w6 ⟨u6, rfl, hu6, hE6⟩; obtain ⟨A6, l6, c6, rfl⟩ := U.sl hu6; have hK6 := Lib.hid (hK5.out.ext hB hE6); have HC2 := Lib.hid (HC2'.out w6 K5 (hSx.kee hK6.out) (HJ0.out.kee hK6.out) (hKp5.ext hE6) (Nat.le_trans hB hK6.out.size))))
            | (go_at_call 104; ((with_reducible refine HC2.out.mono ?_); rintro e7 w7 ⟨⟨u7, rfl, hu7⟩, ⟨K7, hKp7⟩, hKe7⟩; obtain ⟨A7, l7, c7, rfl⟩ := U.sl hu7; have hAd := Lib.hid (add_B w7 _ _ _ _ (Un.kee hu6 hKe7) hu7 hl3.out hl4.out _ rfl); have hK7 := Lib.hid (hK6.out.trans hKe7)))
            | (go_at_call 51; ((with_reducible refine hAd.out.mono ?_); rintro e8 w8 ⟨u8, rfl, hu8, hE8⟩; obtain ⟨A8, l8, c8, rfl⟩ := U.sl hu8)))
        rw [HVAL.out] at hu8
        have HU := Lib.hid hu8
        clear hu8
        (try go_wp2)
        go_ret
        exact ⟨⟨_, rfl, HU.out⟩, ⟨K7, hKp7.ext hE8⟩, hK7.out.ext hB hE8⟩
end Go.Proofs.YtfkcdmbiihkiiaaGreatDoor
