/- The document's Step: a natural times a small number, and another one. -/
import Derived.Test.YtfkcdmbiihkiiaaGreatDoorBbb
import Derived.Test.YtfkcdmbiihkiiaaGreatDoorBav
import Derived.Test.YtfkcdmbiihkiiaaGreatDoorBba

namespace Go.Proofs.YtfkcdmbiihkiiaaGreatDoor
open Go.RowKit
set_option linter.unusedVariables false
set_option maxHeartbeats 400000
attribute [local go_sem ↓] app_shut
attribute [local go_sem] run_append_tok

/-- The first i limbs are done. -/
structure StI (xs : List Nat) (m d i : Nat) (o : List Nat) (rs : Nat) : Prop where
  len : o.length = i
  lt : ∀ x ∈ o, x < 4294967296
  val : Proofs.YtfkcdmbiihkiiaaGreatDoor.val o + rs * 4294967296 ^ i = Proofs.YtfkcdmbiihkiiaaGreatDoor.val (xs.take i) * m + d
theorem StI.start (xs : List Nat) (m d : Nat) : StI xs m d 0 [] d := ⟨rfl, by simp, by rw [List.take_zero]; simp [Proofs.YtfkcdmbiihkiiaaGreatDoor.val]⟩
theorem StI.step {xs : List Nat} {m d i : Nat} {o : List Nat} {rs : Nat} (h : StI xs m d i o rs) (hi : i < xs.length) (x n q r : Nat) (hx : lb xs i = x) (hn : x * m + rs = n) (hq : n / 4294967296 = q) (hr : n % 4294967296 = r) :
    StI xs m d (i + 1) (o ++ [r]) q := by
  refine ⟨by rw [List.length_append, h.len]; rfl, snoc_lt h.lt (by rw [← hr]; exact Nat.mod_lt _ (by decide)), ?_⟩
  rw [val_snoc, h.len, val_take_succ xs i hi, hx, Nat.add_mul, Nat.pow_succ]
  have hv := h.val
  have e : 4294967296 * q + r = n := by rw [← hq, ← hr]; exact Nat.div_add_mod n 4294967296
  generalize 4294967296 ^ i = P at *
  have e1 : q * (P * 4294967296) = (4294967296 * q) * P := by rw [Nat.mul_comm P, ← Nat.mul_assoc, Nat.mul_comm q]
  have e2 : x * P * m = x * m * P := Nat.mul_right_comm _ _ _
  rw [e1, e2]
  have e3 : (4294967296 * q) * P + r * P = n * P := by rw [← Nat.add_mul, e]
  have e4 : n * P = x * m * P + rs * P := by rw [← hn, Nat.add_mul]
  omega
theorem StI.done {xs : List Nat} {m d L : Nat} {o : List Nat} {rs a : Nat} (h : StI xs m d L o rs) (hL : xs.length = L) (ha : Proofs.YtfkcdmbiihkiiaaGreatDoor.val xs = a) : Proofs.YtfkcdmbiihkiiaaGreatDoor.val (o ++ [rs]) = a * m + d := by
  rw [val_snoc, h.len, h.val, List.take_of_length_le (by omega), ha]

set_option maxRecDepth 100000 in
set_option maxHeartbeats 4000000 in
theorem rstep_calls (w : World) (v : Value) (a m d : Nat) (hu : Un w v a) (hm2 : m ≤ 1000000) (hd : d ≤ 1000000) (hl : (limbs a).length ≤ 100000) :
    Calls Tryz.prog 108 #[v, .int .i64 (m : Nat), .int .i64 (d : Nat)] w fun e w' => (∃ u, e = .returned u ∧ Un w' u (a * m + d)) ∧ Ext w w' := by
  have hva := val_limbs a
  have h' : U w v (limbs a) := hu
  generalize limbs a = xs at *
  clear hu
  obtain ⟨A, c, rfl, ⟨hc, hmx⟩, hx, hr0⟩ := h'
  obtain ⟨L, hL⟩ : ∃ L, xs.length = L := ⟨_, rfl⟩
  have HL := Lib.hid hL
  have HI0 := Lib.hid (StI.start xs m d)
  have HDN := Lib.hid (fun o rs (h : StI xs m d L o rs) => h.done hL hva)
  rw [hL] at hc hmx hr0 hl ⊢
  clear hL hva
  have hown0 : Own (w.alloc (.cells #[] 56)) w.heap.size (.slice (some ⟨w.heap.size, 0, none⟩) 0 0) [] := World.ownsRow_lit w #[] 0 (Nat.le_refl _) (Nat.zero_le _) rfl
  have hB0 : Ext w (w.alloc (.cells #[] 56)) := (Ext.refl w).alloc _
  have o1 := u64_fit (show d < 18446744073709551616 by omega)
  have o2 := u64_mod (show d < 18446744073709551616 by omega)
  go_enter Tryz.func108, Tryz.ntmps108
  go_wp2
  clear o1 o2
  go_loopw [9, 7, 8] (fun t s r wr => ∃ (i rs : Nat) (o : List Nat), i ≤ L ∧ t = .int .i64 (i : Nat) ∧ r = .int .u64 (rs : Nat) ∧ rs < 4294967296 ∧ Hid (StI xs m d i o rs) ∧ Own wr w.heap.size s o ∧ Ext w wr) (fun t _ _ _ => L - (intOf t).toNat)
  case atStart => exact ⟨0, d, [], Nat.zero_le _, rfl, rfl, by omega, HI0, hown0, hB0⟩
  case round =>
    clear HI0 hown0 hB0
    obtain ⟨i, rs, o, hi, rfl, rfl, hrb, HO, hown, hE⟩ := hrel
    have hol := HO.out.len
    have o0 : IntKind.u32.wrap (rs : Int) = (rs : Int) := by rw [IntKind.wrap_u32]; omega
    by_cases hlt : i < L
    · have hi1 : (i : Int) < (L : Int) := by omega
      have hi0 : (0 : Int) ≤ (i : Int) := by omega
      obtain ⟨ad, rfl, hb, hcell⟩ := hr0 (by omega)
      have hc0 := (hE.cell (p := ad.add i) (by rw [addr_add_block]; exact hb)).trans (hcell i (by omega))
      have hxb := lb_lt hx i
      obtain ⟨x, hx0⟩ : ∃ x, lb xs i = x := ⟨_, rfl⟩
      rw [hx0] at hc0 hxb
      obtain ⟨z, hz⟩ : ∃ z, x * m = z := ⟨_, rfl⟩
      have hzb : z ≤ 4294967296 * 1000000 := by rw [← hz]; exact Nat.mul_le_mul (by omega) hm2
      obtain ⟨y, hy⟩ : ∃ y, z + rs = y := ⟨_, rfl⟩
      obtain ⟨q, hq⟩ : ∃ q, y / 4294967296 = q := ⟨_, rfl⟩
      obtain ⟨r, hr⟩ : ∃ r, y % 4294967296 = r := ⟨_, rfl⟩
      have HST := Lib.hid (HO.out.step (by rw [HL.out]; omega) x y q r hx0 (by rw [hz]; exact hy) hq hr)
      have hqb : q < 4294967296 := by omega
      have o1 : (x : Int) * (m : Int) = (z : Int) := by rw [← hz]; exact (Int.natCast_mul x m).symm
      have o2 : (z : Int) + (rs : Int) = (y : Int) := by omega
      have o3 := u64_fit (show z < 18446744073709551616 by omega)
      have o4 := u64_mod (show z < 18446744073709551616 by omega)
      have o5 := u64_fit (show x < 18446744073709551616 by omega)
      have o6 := u64_mod (show x < 18446744073709551616 by omega)
      have o7 := u64_fit (show m < 18446744073709551616 by omega)
      have o8 := u64_mod (show m < 18446744073709551616 by omega)
      have o9 := u64_fit (show y < 18446744073709551616 by omega)
      have o10 := u64_mod (show y < 18446744073709551616 by omega)
      have o11 : IntKind.u32.wrap (y : Int) = (r : Int) := by rw [IntKind.wrap_u32, ← hr, Int.natCast_emod]; rfl
      have o12 : (y : Int) % 4294967296 = (r : Int) := by rw [← hr, Int.natCast_emod]; rfl
      have o13 : (y : Int) / 4294967296 = (q : Int) := by rw [← hq, Int.natCast_ediv]; rfl
      have o14 := u64_fit (show q < 18446744073709551616 by omega)
      obtain ⟨v', w', hrun, hown', hB'⟩ := push_own (Nat.le_refl _) hE hown (r : Int) r rfl (by omega) (by omega)
      obtain ⟨t1, t2, t3⟩ := app_tok hrun
      clear hx0 hxb hz hy hq hr HO hcell hr0 hown hE hrun
      go_wp2
      go_roundw
      case rel => exact ⟨i + 1, q, _, by omega, by go_num, rfl, hqb, HST, hown', hB'⟩
      case measure => simp [intOf]; omega
    · obtain rfl : i = L := by omega
      have hdn := HDN.out o rs HO.out
      obtain ⟨v', w', hrun, hown', hB'⟩ := push_own (Nat.le_refl _) hE hown (rs : Int) rs rfl hrb (by omega)
      obtain ⟨t1, t2, t3⟩ := app_tok hrun
      have hl2 : (o ++ [rs]).length = i + 1 := by rw [List.length_append, hol]; rfl
      obtain ⟨g, c2, hsh⟩ := hown'.shape (by rw [hl2]; omega)
      rw [hl2] at hsh
      subst hsh
      have hU := hown'.toU (snoc_lt HO.out.lt hrb) (by omega)
      have hrn := Lib.hid (rnat_calls w' _ _ hU (i + 1) (i + 1) (by omega) (by omega))
      have htk : Hid (val ((o ++ [rs]).take (i + 1)) = a * m + d) := by show _ = _; rw [List.take_of_length_le (by omega)]; exact hdn
      have o3 := u64_fit (show rs < 18446744073709551616 by omega)
      have o4 : (rs : Int) % 4294967296 = (rs : Int) := by omega
      clear hdn HO HDN hU hown hown' hrun hl2 hE
      go_wp2_with (go_at_call 142; refine hrn.out.mono ?_; rintro e w4 ⟨⟨u, rfl, hu4⟩, hE4⟩; obtain ⟨A4, l4, c4, rfl⟩ := U.sl hu4)
      go_ret
      rw [htk.out] at hu4
      exact ⟨⟨_, rfl, hu4⟩, (show Ext w w' from hB').below hE4⟩
end Go.Proofs.YtfkcdmbiihkiiaaGreatDoor
/- The document's Read. -/
namespace Go.Proofs.YtfkcdmbiihkiiaaGreatDoor
open Go.RowKit
set_option linter.unusedVariables false
set_option maxHeartbeats 400000

/-- What the document's Read answers. -/
def RdB (w w' : World) (e : Ending) (S : ByteArray) (b : Nat) : Prop :=
  Ext w w' ∧ ((∃ i, i < S.size ∧ (∀ j, j < i → lb (worL S) j < b) ∧ b ≤ lb (worL S) i ∧ e = .returned (.tuple #[.slice none 0 0, .int .i64 (i : Nat), .int .i64 50])) ∨
  (S.size = 0 ∧ e = .returned (.tuple #[.slice none 0 0, .int .i64 0, .int .i64 50])) ∨
  (S.size ≠ 0 ∧ (∀ d ∈ worL S, d < b) ∧ ∃ u, e = .returned (.tuple #[u, .int .i64 0, .int .i64 0]) ∧ Un w' u (bval b (worL S))))
theorem Un_none (w : World) (A : Option Addr) (c : Nat) : Un w (.slice A 0 c) 0 := by rw [Un, limbs_zero]; exact U.nil_ _ _ _

set_option maxRecDepth 100000 in
set_option maxHeartbeats 4000000 in
theorem rread_calls (w : World) (S : ByteArray) (b : Nat) (h2 : 2 ≤ b) (h36 : b ≤ 36) (hl : S.size ≤ 19000) (hM : (limbs (b ^ S.size)).length ≤ 398) :
    Calls Tryz.prog 69 #[.string S, .int .i64 (b : Nat)] w fun e w' => RdB w w' e S b := by
  have hat := Lib.hid (worL_at S)
  have hws := Lib.hid (worL_mem S b)
  have hwl := Lib.hid (worL_len S)
  have hie := isEmpty_size S
  obtain ⟨L, hL⟩ : ∃ L, S.size = L := ⟨_, rfl⟩
  have HL := Lib.hid hL
  rw [hL] at hl hM hie
  unfold RdB
  by_cases h0 : L = 0
  · have hie2 : S.toList.isEmpty = true := by rw [hie, h0]; rfl
    have HL0 : Hid (S.size = 0) := by show _ = _; rw [HL.out, h0]
    clear hie h0 hL
    go_enter Tryz.func69, Tryz.ntmps69
    go_wp2_with (go_at_call 106; refine (rbase_calls _ b h2 h36).mono ?_; rintro e w3 ⟨rfl, rfl⟩)
    go_ret3
    exact ⟨Ext.refl _, .inr (.inl ⟨HL0.out, rfl⟩)⟩
  · have hie2 : S.toList.isEmpty = false := by rw [hie]; exact decide_eq_false h0
    have HL0 : Hid (S.size ≠ 0) := by show _ ≠ _; rw [HL.out]; exact h0
    have hE0 := (Ext.refl w).alloc (.cells #[] 56)
    have hz0 := Un_none (w.alloc (.cells #[] 56)) (some ⟨w.heap.size, 0, none⟩) 0
    have hb0 : Hid (0 = bval b ((worL S).take 0)) := by rw [List.take_zero]; rfl
    clear hie
    go_enter Tryz.func69, Tryz.ntmps69
    go_wp2_with (go_at_call 106; refine (rbase_calls _ b h2 h36).mono ?_; rintro e w3 ⟨rfl, rfl⟩)
    go_loopw [8, 7] (fun t s wr => ∃ i a : Nat, i ≤ L ∧ t = .int .i64 (i : Nat) ∧ Hid (∀ j, j < i → lb (worL S) j < b) ∧ Hid (a = bval b ((worL S).take i)) ∧ Un wr s a ∧ Ext w3 wr) (fun t _ _ => L - (intOf t).toNat)
    case atStart => exact ⟨0, 0, Nat.zero_le _, rfl, fun j hj => by omega, hb0, hz0, hE0⟩
    case round =>
      clear hb0 hz0 hE0
      obtain ⟨i, a, hi, rfl, HI, HA, hua, hE⟩ := hrel
      obtain ⟨A2, l2, c2, rfl⟩ := U.sl hua
      by_cases hlt : i < L
      · have hi1 : (i : Int) < (L : Int) := by omega
        have hi2 : i < S.size := by omega
        have h1 := hat.out i hi2
        obtain ⟨c, hc⟩ : ∃ c, (S[i]'hi2).toNat = c := ⟨_, rfl⟩
        have hc256 : c < 256 := by rw [← hc]; exact UInt8.toNat_lt _
        rw [hc] at h1
        obtain ⟨v, hv⟩ : ∃ v, worB c = v := ⟨_, rfl⟩
        have hv99 := worB_le c
        rw [hv] at h1 hv99
        by_cases hge : b ≤ v
        · have hge1 : (b : Int) ≤ (v : Int) := by omega
          have HE : Hid (b ≤ lb (worL S) i) := by rw [h1]; exact hge
          clear h1
          go_wp2_with (go_at_call 107; refine (rdigit_calls _ c hc256).mono ?_; rintro e w5 ⟨rfl, rfl⟩; rw [hv])
          go_ret3
          exact ⟨hE, .inl ⟨i, by rw [HL.out]; exact hlt, HI.out, HE.out, rfl⟩⟩
        · have hge1 : ¬ ((b : Int) ≤ (v : Int)) := by omega
          have HN : Hid (∀ j, j < i + 1 → lb (worL S) j < b) := fun j hj => by
            rcases Nat.lt_or_ge j i with h | h
            · exact HI.out j h
            · obtain rfl : j = i := by omega
              rw [h1]; omega
          have hpush := chunk_push b (worL S) i (by rw [hwl.out]; exact hi2)
          rw [h1, ← HA.out] at hpush
          have HP : Hid (a * b + v = bval b ((worL S).take (i + 1))) := hpush.symm
          have hla : (limbs a).length ≤ 100000 := by
            have h5 : ∀ d ∈ (worL S).take i, d < b := by
              intro d hd
              obtain ⟨j, hj, rfl⟩ := List.getElem_of_mem hd
              have hji : j < i := by rw [List.length_take] at hj; omega
              have h6 := HI.out j hji
              have h7 : j < (worL S).length := by rw [hwl.out]; omega
              unfold lb at h6
              simp only [List.getElem?_eq_getElem h7, Option.getD_some] at h6
              rw [List.getElem_take]
              exact h6
            have h6 := bval_lt b _ h5
            rw [← HA.out] at h6
            exact Nat.le_trans (bv_len h2 h6 (by rw [List.length_take]; omega) hM) (by omega)
          have hst := Lib.hid (fun W h => rstep_calls W (.slice A2 l2 c2) a b v h (by omega) (by omega) hla)
          clear h1 HI hpush HA
          go_wp2_with (first
            | (go_at_call 107; refine (rdigit_calls _ c hc256).mono ?_; rintro e w5 ⟨rfl, rfl⟩; rw [hv])
            | (go_at_call 108; refine (hst.out _ hua).mono ?_; rintro e w6 ⟨⟨u, rfl, hu6⟩, hE6⟩; obtain ⟨A6, l6, c6, rfl⟩ := U.sl hu6))
          go_roundw
          case rel => exact ⟨i + 1, a * b + v, by omega, by go_num, HN, HP, hu6, hE.below hE6⟩
          case measure => simp [intOf]; omega
      · obtain rfl : i = L := by omega
        have HDA := Lib.hid (hws.out (fun j hj => HI.out j (by rw [← HL.out]; exact hj)))
        have HU : Hid (Un wr (.slice A2 l2 c2) (bval b (worL S))) := by
          have h5 := HA.out
          rw [List.take_of_length_le (by rw [hwl.out, HL.out]; exact Nat.le_refl _)] at h5
          show Un _ _ _
          rw [← h5]
          exact hua
        clear HI HA hua
        go_wp2
        go_ret3
        exact ⟨hE, .inr (.inr ⟨HL0.out, HDA.out, _, rfl, HU.out⟩)⟩
theorem rread_bad (w : World) (S : ByteArray) (b : Int) (h : b < 2 ∨ 36 < b) :
    Calls Tryz.prog 69 #[.string S, .int .i64 b] w fun e w' => e = .returned (.tuple #[.slice none 0 0, .int .i64 0, .int .i64 1]) ∧ w' = w := by
  have hb := Lib.hid (fun W => rbase_bad W b h)
  clear h
  go_enter Tryz.func69, Tryz.ntmps69
  go_wp2_with (go_at_call 106; refine (hb.out _).mono ?_; rintro e w3 ⟨rfl, rfl⟩)
  go_ret3
  exact ⟨rfl, rfl⟩
end Go.Proofs.YtfkcdmbiihkiiaaGreatDoor
/- Rows of bytes that grow; what is kept meanwhile. -/
namespace Go.Proofs.YtfkcdmbiihkiiaaGreatDoor
open Go.RowKit
set_option linter.unusedVariables false
set_option maxHeartbeats 400000

/-- A value is a byte. -/
def I8 (u : Value) : Prop := ∃ x : Nat, u = .int .u8 (x : Nat)
theorem I8.one {u : Value} (h : I8 u) : u.oneCell' = true := by obtain ⟨x, rfl⟩ := h; rfl
/-- Every old cell that holds no byte is kept, and all that is older than B. -/
structure Key (B : Nat) (w w' : World) : Prop where
  below : Below B w w'
  cell : ∀ p v, w.cell? p = some v → ¬ I8 v → w'.cell? p = some v
theorem Key.refl (B : Nat) (w : World) : Key B w w := ⟨Below.refl _ _, fun _ _ h _ => h⟩
theorem Key.trans {B : Nat} {a b c : World} (h : Key B a b) (k : Key B b c) : Key B a c := ⟨h.below.trans k.below, fun p v h1 h2 => k.cell p v (h.cell p v h1 h2) h2⟩
theorem Key.ofExt {B : Nat} {a b : World} (hB : B ≤ a.heap.size) (h : Ext a b) : Key B a b := ⟨Below.mono h hB, fun p v h1 _ => (h.cell (cell_lt h1)).trans h1⟩
theorem Key.size {B : Nat} {a b : World} (h : Key B a b) : a.heap.size ≤ b.heap.size := h.below.size
theorem U.key {B : Nat} {w w' : World} {v : Value} {xs : List Nat} (h : U w v xs) (k : Key B w w') : U w' v xs := by
  obtain ⟨A, c, rfl, hc, hx, hr⟩ := h
  refine ⟨A, c, rfl, hc, hx, fun h0 => ?_⟩
  obtain ⟨ad, hA, hb, hcell⟩ := hr h0
  exact ⟨ad, hA, Nat.lt_of_lt_of_le hb k.size, fun j hj => k.cell _ _ (hcell j hj) (by rintro ⟨x, e⟩; cases e)⟩
theorem Un.key {B : Nat} {w w' : World} {v : Value} {n : Nat} (h : Un w v n) (k : Key B w w') : Un w' v n := U.key h k

/-- A row of bytes in block g that may have room. -/
structure Ry (B : Nat) (w : World) (g n cap : Nat) (es : List Value) : Prop where
  lo : B ≤ g
  caps : n ≤ cap ∧ cap ≤ maxLen
  len : es.length = n
  row : ∃ cur : Array Value, w.heap[g]? = some (.cells cur 5 (0, 0)) ∧ cur.size = cap ∧ cur.toList.take n = es ∧ ∀ u ∈ cur.toList, I8 u
theorem Ry.lt {B : Nat} {w : World} {g n cap : Nat} {es : List Value} (h : Ry B w g n cap es) : g < w.heap.size := by
  obtain ⟨cur, h1, _⟩ := h.row
  exact (Array.getElem?_eq_some_iff.1 h1).1
theorem Ry.cell {B : Nat} {w : World} {g n cap : Nat} {es : List Value} (h : Ry B w g n cap es) {j : Nat} (hj : j < n) : w.cell? ⟨g, j, none⟩ = es[j]? := by
  obtain ⟨cur, h1, h2, h3, h4⟩ := h.row
  rw [cell_of_row w g j _ _ _ h1, ← h3, List.getElem?_take_of_lt hj, Array.getElem?_toList]
theorem Ry.of {B : Nat} {w w' : World} {g n cap : Nat} {es : List Value} (h : Ry B w g n cap es) (e : w'.heap[g]? = w.heap[g]?) : Ry B w' g n cap es := by
  obtain ⟨cur, h1, h2⟩ := h.row
  exact ⟨h.lo, h.caps, h.len, cur, e.trans h1, h2⟩
theorem Ry.ext {B : Nat} {w w' : World} {g n cap : Nat} {es : List Value} (h : Ry B w g n cap es) (k : Ext w w') : Ry B w' g n cap es := h.of (k.block g h.lt)
theorem Ry.i8 {B : Nat} {w : World} {g n cap : Nat} {es : List Value} (h : Ry B w g n cap es) {p : Addr} (hp : p.block = g) {v : Value} (hv : w.cell? p = some v) : I8 v := by
  obtain ⟨cur, h1, h2, h3, h4⟩ := h.row
  unfold World.cell? at hv
  rw [hp, h1] at hv
  simp only at hv
  split at hv
  · cases hv
  · exact h4 v (Array.mem_toList_iff.2 (Array.mem_of_getElem? hv))
theorem Ry.new (B : Nat) (w : World) (hB : B ≤ w.heap.size) : Ry B (w.alloc (.cells #[] 5)) w.heap.size 0 0 [] :=
  ⟨hB, ⟨Nat.le_refl _, by unfold maxLen; omega⟩, rfl, #[], heap_alloc_new w _, rfl, rfl, fun u hu => by simp at hu⟩
/-- One byte more. -/
theorem Ry.push {B : Nat} {w : World} {g n cap : Nat} {es : List Value} (h : Ry B w g n cap es) (e : Value) (he : I8 e) (a : Addr) (ha : w.cell? a = some e) (hn : n + 1 ≤ 1000000) (hB : B ≤ w.heap.size) :
    ∃ g' cap' w', (Builtin.append_ #[85, 85] 85 #[.slice (some ⟨g, 0, none⟩) n cap, .slice (some a) 1 1]).run Tryz.prog w = .ok (.slice (some ⟨g', 0, none⟩) (n + 1) cap') w' ∧ Ry B w' g' (n + 1) cap' (es ++ [e]) ∧
      w.grownBy w' (some g) ∧ (g' = g ∨ g' = w.heap.size) ∧ Key B w w' := by
  obtain ⟨i0, hi, hz, hs, hb⟩ := infoU8_parts
  obtain ⟨cur, h1, h2, h3, h4⟩ := id h.row
  have hnews : ∀ j u, [e][j]? = some u → w.cell? (a.add j) = some u := by
    intro j u hj
    have h0 := (List.getElem?_eq_some_iff.1 hj).1
    have : j = 0 := by simpa using h0
    subst this
    simp at hj
    subst hj
    rw [show a.add 0 = a by simp [Addr.add]]
    exact ha
  by_cases hroom : n + 1 ≤ cap
  · have hr := run_append_room (P := Tryz.prog) w 85 85 5 i0 Tryz.underlying85 hi g n cap cur h1 a 1 1 [e] (by rw [hs]; rfl) hnews (by intro u hu; simp at hu; subst hu; exact he.one) hroom (by rw [hs, h2]; simpa using hroom)
    rw [hs, Nat.mul_one] at hr
    have hhe : (w.setRow g (cur.toList.take n ++ [e] ++ cur.toList.drop (n + [e].length)).toArray).heap[g]? = some (.cells (cur.toList.take n ++ [e] ++ cur.toList.drop (n + [e].length)).toArray 5 (0, 0)) := setRow_heap w g cur _ 5 _ h1
    have hot : ∀ k, k ≠ g → (w.setRow g (cur.toList.take n ++ [e] ++ cur.toList.drop (n + [e].length)).toArray).heap[k]? = w.heap[k]? := fun k hk => setRow_other w g k _ hk
    have hsz : (w.setRow g (cur.toList.take n ++ [e] ++ cur.toList.drop (n + [e].length)).toArray).heap.size = w.heap.size := by simp
    have hgb : w.grownBy (w.setRow g (cur.toList.take n ++ [e] ++ cur.toList.drop (n + [e].length)).toArray) (some g) := ⟨rfl, rfl, rfl, by rw [hsz]; exact Nat.le_refl _, fun k _ hk => hot k (fun e => hk (by rw [e]))⟩
    refine ⟨g, cap, _, hr, ⟨h.lo, ⟨hroom, h.caps.2⟩, by rw [List.length_append, h.len]; rfl, _, hhe, ?_, ?_, ?_⟩, hgb, .inl rfl, ⟨⟨rfl, rfl, rfl, by rw [hsz]; exact Nat.le_refl _, fun k hk => hot k (by have := h.lo; omega)⟩, ?_⟩⟩
    · simp only [List.size_toArray, List.length_append, List.length_take, List.length_drop, Array.length_toList, List.length_singleton]
      omega
    · have hl : (cur.toList.take n ++ [e]).length = n + 1 := by rw [List.length_append, h3, h.len]; rfl
      show List.take (n + 1) (cur.toList.take n ++ [e] ++ cur.toList.drop (n + [e].length)) = _
      rw [List.take_left' hl, h3]
    · intro u hu
      simp only [List.mem_append, List.mem_singleton] at hu
      rcases hu with (hu | hu) | hu
      · exact h4 u (List.mem_of_mem_take hu)
      · subst hu; exact he
      · exact h4 u (List.mem_of_mem_drop hu)
    · intro p v hv hns
      by_cases hp : p.block = g
      · exact absurd (h.i8 hp hv) hns
      · rw [← hv]
        unfold World.cell?
        rw [hot _ hp]
  · have holds : ∀ j v, es[j]? = some v → w.cell? ((⟨g, 0, none⟩ : Addr).add j) = some v := by
      intro j v hj
      have h0 := (List.getElem?_eq_some_iff.1 hj).1
      rw [h.len] at h0
      rw [addr_zero_add, h.cell h0, hj]
    have hr := run_append_grow (P := Tryz.prog) w 85 85 5 i0 (.int .u8 0) Tryz.underlying85 hi hz ⟨g, 0, none⟩ n cap es (by rw [h.len, hs, Nat.mul_one]) holds a 1 1 [e] (by rw [hs]; rfl) hnews (by omega) (by omega) (growslice_fits (by omega) (by rw [hb]; omega))
    have hge := grownCap_ge w (n + 1) cap 5
    have hcm : grownCap w (n + 1) cap 5 ≤ maxLen := grownCap_le_maxLen w (n + 1) cap 5 (by unfold maxLen; omega)
    generalize grownCap w (n + 1) cap 5 = G at *
    have hE : Ext w (w.drew.alloc (.cells (es.toArray ++ [e].toArray ++ Builtin.zeroCells (Value.int .u8 0).cells (G - (n + 1))) 5)) := ((Ext.refl w).drew).alloc _
    refine ⟨w.heap.size, G, _, hr, ⟨hB, ⟨hge, hcm⟩, by rw [List.length_append, h.len]; rfl, _, heap_alloc_new w.drew _, ?_, ?_, ?_⟩, ⟨rfl, rfl, rfl, hE.size, fun k hk _ => hE.block k hk⟩, .inr rfl, Key.ofExt hB hE⟩
    · simp only [Array.size_append, List.size_toArray, size_zeroCells, List.length_singleton, h.len]
      show n + 1 + (G - (n + 1)) * 1 = G
      omega
    · have hl : (es ++ [e]).length = n + 1 := by rw [List.length_append, h.len]; rfl
      simp only [Array.toList_append]
      exact List.take_left' hl
    · intro u hu
      simp only [Array.toList_append, List.mem_append, List.mem_singleton] at hu
      rcases hu with (hu | hu) | hu
      · rw [← h3] at hu; exact h4 u (List.mem_of_mem_take hu)
      · subst hu; exact he
      · have : u = Value.int .u8 0 := by
          simp [Builtin.zeroCells, Value.cells] at hu
          obtain ⟨j, _, h2⟩ := hu
          rw [Nat.mod_one] at h2
          exact h2.symm
        subst this
        exact ⟨0, rfl⟩
theorem Ry.frozen {B : Nat} {w : World} {g n cap : Nat} {es : List Value} (h : Ry B w g n cap es) (j : Nat) : w.frozen? ⟨g, j, none⟩ = false := by
  obtain ⟨cur, h1, _⟩ := h.row
  exact frozen_of_row w g j _ _ h1
theorem Ry.set_ {B : Nat} {w : World} {g n cap : Nat} {es : List Value} (h : Ry B w g n cap es) (j x : Nat) : Ry B (w.setCell ⟨g, j, none⟩ (.int .u8 (x : Nat))) g n cap (es.set j (.int .u8 (x : Nat))) := by
  obtain ⟨cur, h1, h2, h3, h4⟩ := h.row
  refine ⟨h.lo, h.caps, by rw [List.length_set]; exact h.len, _, heap_setCell_same w g j _ _ (.int .u8 (x : Nat)) h1, ?_, ?_, ?_⟩
  · simpa using h2
  · rw [← h3, Array.toList_setIfInBounds, List.take_set]
  · intro u hu
    rw [Array.toList_setIfInBounds] at hu
    rcases List.mem_or_eq_of_mem_set hu with h5 | h5
    · exact h4 u h5
    · subst h5; exact ⟨x, rfl⟩
theorem Ry.but {B : Nat} {w : World} {g n cap : Nat} {es : List Value} (h : Ry B w g n cap es) (j : Nat) (v : Value) : Below B w (w.setCell ⟨g, j, none⟩ v) :=
  ⟨rfl, rfl, rfl, by simp [World.setCell], fun k hk => heap_setCell_other w ⟨g, j, none⟩ k v (by have := h.lo; show k ≠ g; omega)⟩
/-- The bytes of digits in such a row. -/
theorem ryText {B : Nat} {w : World} {g n cap : Nat} (ds : List Nat) (hd : ∀ d ∈ ds, d < 36) (hl : ds.length = n) (h : Ry B w g n cap (Bv (ds.map digB))) :
    (convert 85 9 (.slice (some ⟨g, 0, none⟩) n cap)).run Tryz.prog w = .ok (.string (strD ds)) w := by
  have := run_convert_bytes_back (P := Tryz.prog) w 85 9 5 ⟨g, 0, none⟩ cap (byteL ds) Tryz.underlying85 Tryz.underlying5 Tryz.underlying9 (fun j hj => by
    have hj2 : j < ds.length := by rwa [byteL_len] at hj
    rw [addr_zero_add, h.cell (j := j) (by omega), Bv_get _ (by rw [List.length_map]; exact hj2)]
    have e1 : ((byteL ds)[j]'hj).toNat = digB (ds[j]'hj2) := by
      simp only [byteL, List.getElem_map]
      exact digB_nat (hd _ (List.getElem_mem hj2))
    rw [e1]
    congr 2
    unfold lb
    simp [hj2])
  rw [byteL_len, hl] at this
  exact this
end Go.Proofs.YtfkcdmbiihkiiaaGreatDoor
/- The document's Text and Count. -/
namespace Go.Proofs.YtfkcdmbiihkiiaaGreatDoor
open Go.RowKit
set_option linter.unusedVariables false
set_option maxHeartbeats 400000
attribute [local go_sem ↓] app_shut
attribute [local go_sem] run_append_tok

/-- The digits so far, the lowest first. -/
structure TxI (b a0 a : Nat) (ds : List Nat) : Prop where
  spl : nd b a0 = nd b a ++ ds.reverse
  lt : ∀ d ∈ ds, d < b
theorem TxI.start (b a0 : Nat) : TxI b a0 a0 [] := ⟨by simp, by simp⟩
theorem TxI.step {b a0 a : Nat} {ds : List Nat} (h : TxI b a0 a ds) (hb : 2 ≤ b) (ha : a ≠ 0) (q r : Nat) (hq : a / b = q) (hr : a % b = r) : r < b ∧ ds.length < (nd b a0).length ∧ TxI b a0 q (ds ++ [r]) := by
  have hrb : r < b := by rw [← hr]; exact Nat.mod_lt _ (by omega)
  have e := nd_pos ha hb
  refine ⟨hrb, ?_, ?_, fun d hd => ?_⟩
  · rw [h.spl, List.length_append, List.length_reverse, e, List.length_append]
    simp
  · rw [h.spl, e, hq, hr, List.reverse_append]
    simp
  · rcases List.mem_append.1 hd with h1 | h1
    · exact h.lt d h1
    · simp at h1; omega
/-- The row turned round, i bytes from both ends. -/
structure RvI (l : List Nat) (i : Nat) (o : List Nat) : Prop where
  len : o.length = l.length
  at_ : ∀ j, j < l.length → lb o j = if j < i ∨ l.length - 1 - j < i then lb l (l.length - 1 - j) else lb l j
theorem RvI.start (l : List Nat) : RvI l 0 l := ⟨rfl, fun j hj => by rw [if_neg (by omega)]⟩
theorem RvI.step {l : List Nat} {i : Nat} {o : List Nat} (h : RvI l i o) (hi : i < l.length / 2) (x y n : Nat) (hn : l.length = n) (hx : lb o i = x) (hy : lb o (n - 1 - i) = y) : RvI l (i + 1) ((o.set i y).set (n - 1 - i) x) := by
  subst hn
  have h1 := h.at_ i (by omega)
  have h2 := h.at_ (l.length - 1 - i) (by omega)
  rw [if_neg (by omega), hx] at h1
  rw [if_neg (by omega), hy] at h2
  refine ⟨by rw [List.length_set, List.length_set]; exact h.len, fun j hj => ?_⟩
  rw [lb_set _ _ _ _ (by rw [List.length_set, h.len]; omega), lb_set _ _ _ _ (by rw [h.len]; omega)]
  by_cases e1 : l.length - 1 - i = j
  · rw [if_pos e1, if_pos (by omega), h1]
    congr 1; omega
  · rw [if_neg e1]
    by_cases e2 : i = j
    · rw [if_pos e2, if_pos (by omega), h2]
      congr 1; omega
    · rw [if_neg e2, h.at_ j hj]
      by_cases c : j < i ∨ l.length - 1 - j < i
      · rw [if_pos c, if_pos (by omega)]
      · rw [if_neg c, if_neg (by omega)]
theorem RvI.done {l : List Nat} {i : Nat} {o : List Nat} (h : RvI l i o) (hi : l.length / 2 = i) : o = l.reverse := by
  refine ext_lb (by rw [h.len, List.length_reverse]) fun j hj => ?_
  have hj2 : j < l.length := by rw [← h.len]; exact hj
  have e : lb l.reverse j = lb l (l.length - 1 - j) := by
    unfold lb
    rw [List.getElem?_reverse hj2]
  rw [h.at_ j hj2, e]
  by_cases c : j < i ∨ l.length - 1 - j < i
  · rw [if_pos c]
  · rw [if_neg c]
    congr 1; omega

set_option maxRecDepth 100000 in
set_option maxHeartbeats 4000000 in
theorem rtext_calls (w : World) (va : Value) (a0 b : Nat) (hu : Un w va a0) (hal : (limbs a0).length ≤ 398) (h2 : 2 ≤ b) (h36 : b ≤ 36) :
    Calls Tryz.prog 77 #[va, .int .i64 (b : Nat)] w fun e w' => e = .returned (.tuple #[.string (strD (dt b a0)), .int .i64 0]) ∧ Ext w w' := by
  obtain ⟨A, l, c, rfl⟩ := U.sl hu
  have hNl : Hid ((nd b a0).length ≤ 16 * 31 * 1024) := by
    obtain ⟨I, hI10, haI, _⟩ := least_kp b 1 a0 h2 (Nat.le_refl _) hal
    have h1 := pow_nd_le b h2 a0 (16 * 1 * 2 ^ I) haI
    have h3 : 16 * 1 * 2 ^ I ≤ 16 * 31 * 2 ^ 10 := Nat.mul_le_mul (by decide) (Nat.pow_le_pow_right (by decide) hI10)
    have h4 : (2 : Nat) ^ 10 = 1024 := rfl
    rw [h4] at h3
    exact Nat.le_trans h1 h3
  have HT0 := Lib.hid (TxI.start b a0)
  have hE0 := (Ext.refl w).alloc (.cells #[] 5)
  have hR0 := Ry.new w.heap.size w (Nat.le_refl _)
  have hu0 := Un.alloc hu (.cells #[] 5)
  obtain ⟨N, hN⟩ : ∃ N, (nd b a0).length = N := ⟨_, rfl⟩
  rw [hN] at hNl
  have HN := Lib.hid hN
  have HNl := hNl
  have hN5 := hNl.out
  clear hN hNl
  go_enter Tryz.func77, Tryz.ntmps77
  go_wp2_with (go_at_call 106; refine (rbase_calls _ b h2 h36).mono ?_; rintro e w3 ⟨rfl, rfl⟩)
  go_loopw [0, 6] (fun t s wr => ∃ (a : Nat) (ds : List Nat) (g n cap : Nat), Un wr t a ∧ a ≤ a0 ∧ s = .slice (some ⟨g, 0, none⟩) n cap ∧ Hid (ds.length = n) ∧ n ≤ N ∧ Hid (TxI b a0 a ds) ∧ Hid (Ry w3.heap.size wr g n cap (Bv (ds.map digB))) ∧ Ext w3 wr) (fun _ s _ => match s with | .slice _ n _ => N - n | _ => 0)
  case atStart => exact ⟨a0, [], _, 0, 0, hu0, Nat.le_refl _, rfl, rfl, Nat.zero_le _, HT0, hR0, hE0⟩
  case round =>
    clear HT0 hR0 hu0 hE0
    obtain ⟨a, ds, g, n, cap, hua, hle, rfl, hdl, hnN, HT, HR, hE⟩ := hrel
    obtain ⟨A2, c2, rfl, hc2⟩ := U.shape (U.asUn hua)
    have hla : (limbs a).length ≤ 100000 := Nat.le_trans (len_mono hle) (by omega)
    by_cases ha : a = 0
    · subst ha
      have hl0 : (limbs 0).length = 0 := by rw [limbs_zero]; rfl
      rw [hl0]
      have hspl := HT.out.spl
      rw [nd_zero, List.nil_append] at hspl
      have hdlt := HT.out.lt
      by_cases hn0 : n = 0
      · have HF : Hid (strD (dt b a0) = ⟨#[48]⟩) := by
          have hds : ds = [] := List.eq_nil_of_length_eq_zero (by rw [hdl.out]; exact hn0)
          rw [hds] at hspl
          have ha0 : a0 = 0 := by
            rcases Nat.eq_zero_or_pos a0 with h | h
            · exact h
            · exact absurd hspl (nd_ne (by omega) h2)
          rw [ha0, dt_zero]; rfl
        subst hn0
        clear hspl hdlt HT hl0
        go_wp2
        go_ret2
        exact ⟨by rw [HF.out]; first | done | rfl, hE⟩
      · have HF : Hid (dt b a0 = ds.reverse) := by
          have ha0 : a0 ≠ 0 := fun h => by
            rw [h, nd_zero] at hspl
            have := congrArg List.length hspl
            rw [List.length_reverse, hdl.out] at this
            exact hn0 this.symm
          show _ = _
          rw [dt_pos ha0, hspl]
        have hn1 : ¬ ((n : Int) = 0) := by omega
        have hd36 : Hid (∀ d ∈ ds.reverse, d < 36) := fun d hd => by have := hdlt d (List.mem_reverse.1 hd); omega
        obtain ⟨n2, hn2⟩ : ∃ n2, n / 2 = n2 := ⟨_, rfl⟩
        have o1 : (n : Int).tdiv 2 = (n2 : Int) := by rw [Int.tdiv_eq_ediv_of_nonneg (Int.natCast_nonneg _)]; omega
        have o2 : (n : Int) / 2 = (n2 : Int) := by omega
        have hll : Hid ((ds.map digB).length = n) := by show _ = _; rw [List.length_map]; exact hdl.out
        have HV0 := Lib.hid (RvI.start (ds.map digB))
        have HN2 := Lib.hid hn2
        have hn2l : n2 ≤ n := by omega
        have hn2h : 2 * n2 ≤ n := by omega
        clear hspl hdlt HT hl0 hn2
        go_wp2
        go_loopw [9] (fun t wq => ∃ (i : Nat) (o : List Nat), i ≤ n2 ∧ t = .int .i64 (i : Nat) ∧ Hid (RvI (ds.map digB) i o) ∧ Hid (Ry w3.heap.size wq g n cap (Bv o)) ∧ Ext w3 wq) (fun t _ => n2 - (intOf t).toNat)
        case atStart => exact ⟨0, _, Nat.zero_le _, rfl, HV0, HR, hE⟩
        case round =>
          clear HV0 HR hE
          obtain ⟨i, o, hi, rfl, HV, HR, hE⟩ := hrel
          have hol : o.length = n := by rw [HV.out.len]; exact hll.out
          by_cases hlt : i < n2
          · obtain ⟨k, hk⟩ : ∃ k, n - 1 - i = k := ⟨_, rfl⟩
            obtain ⟨x, hx⟩ : ∃ x, lb o i = x := ⟨_, rfl⟩
            obtain ⟨y, hy⟩ : ∃ y, lb o k = y := ⟨_, rfl⟩
            have hst := HV.out.step (by rw [hll.out, HN2.out]; exact hlt) x y n hll.out hx (by rw [hk]; exact hy)
            rw [hk] at hst
            have HST := Lib.hid hst
            have hcx := (HR.out.cell (j := i) (by omega)).trans (Bv_get o (by omega))
            have hcy := (HR.out.cell (j := k) (by omega)).trans (Bv_get o (by omega))
            rw [hx] at hcx
            rw [hy] at hcy
            have hfx := HR.out.frozen i
            have hfy := HR.out.frozen k
            have hR2 := (HR.out.set_ i y).set_ k x
            rw [← Bv_set, ← Bv_set] at hR2
            have HR2 := Lib.hid hR2
            have hE2 : Ext w3 ((wr.setCell ⟨g, i, none⟩ (.int .u8 (y : Nat))).setCell ⟨g, k, none⟩ (.int .u8 (x : Nat))) := Below.trans (Below.trans hE (HR.out.but i _)) ((HR.out.set_ i y).but k _)
            have q1 : (i : Int) < (n2 : Int) := by omega
            have q2 : (0 : Int) ≤ (i : Int) := by omega
            have q3 : (i : Int) < (n : Int) := by omega
            have q4 : (n : Int) - 1 - (i : Int) = (k : Int) := by omega
            have q5 : (0 : Int) ≤ (k : Int) := by omega
            have q6 : (k : Int) < (n : Int) := by omega
            have q7 : ¬ (i = k) := by omega
            have q8 : ¬ (k = i) := by omega
            have q9 : IntKind.i64.wrap (k : Int) = (k : Int) := by rw [IntKind.wrap_i64]; omega
            have hgl := HR.out.lt
            clear hst hx hy hk hR2 HV HR hE hol
            go_wp2
            go_roundw
            case rel => exact ⟨i + 1, _, by omega, by go_num, HST, HR2, hE2⟩
            case measure => simp [intOf]; omega
          · obtain rfl : i = n2 := by omega
            have hdn := HV.out.done (by rw [hll.out]; exact HN2.out)
            have hR3 := HR.out
            rw [hdn, ← List.map_reverse] at hR3
            have hcv := ryText ds.reverse hd36.out (by rw [List.length_reverse]; exact hdl.out) hR3
            rw [← HF.out] at hcv
            clear hdn hR3 HV HR
            go_wp2
            go_ret2
            exact ⟨rfl, hE⟩
    · have hnz := limbs_nz ha
      obtain ⟨q, hq⟩ : ∃ q, a / b = q := ⟨_, rfl⟩
      obtain ⟨r, hr⟩ : ∃ r, a % b = r := ⟨_, rfl⟩
      obtain ⟨hrb, hdN, hst⟩ := HT.out.step h2 ha q r hq hr
      have hov := rover_calls wr _ a b hua (by omega) (by omega) hla
      rw [hr, hq] at hov
      have HOV := Lib.hid hov
      have HST := Lib.hid hst
      have hr36 : r < 36 := by omega
      have hqa : q ≤ a0 := Nat.le_trans (by rw [← hq]; exact Nat.div_le_self _ _) hle
      have hnN2 : n < N := by have := hdl.out; have := HN.out; omega
      generalize (limbs a).length = la at *
      clear hst hov hq hr HT hua ha
      go_wp2_with (first
        | (go_at_call 110; refine HOV.out.mono ?_; rintro e w5 ⟨⟨u5, rfl, hu5⟩, hE5⟩; obtain ⟨A5, l5, c5, rfl⟩ := U.sl hu5)
        | (go_at_call 111; refine (rbyte_calls _ r hr36).mono ?_; rintro e w6 ⟨rfl, rfl⟩; have hE6 := (Ext.refl w6).alloc (.cells #[.int .u8 (digB r : Nat)] 5); have hR6 := (HR.out.ext hE5).ext hE6; obtain ⟨g', cap', w', hrun, hR', hgb, hg', hKe'⟩ := hR6.push (.int .u8 (digB r : Nat)) ⟨_, rfl⟩ ⟨w6.heap.size, 0, none⟩ (by go_simp) (by omega) (Nat.le_trans hE.size (Nat.le_trans hE5.size hE6.size)); obtain ⟨t1, t2, t3⟩ := app_tok hrun; have hu6 := (Un.alloc hu5 (.cells #[.int .u8 (digB r : Nat)] 5)).key hKe'; have hE7 : Ext w3 w' := Below.trans ((hE.below hE5).below hE6) hKe'.below; have hR7 := Lib.hid hR'; clear hrun hR6 hE6; clear hgb hg' hKe' hR'))
      go_roundw
      case rel => exact ⟨q, ds ++ [r], g', n + 1, cap', hu6, hqa, rfl, by show _ = _; rw [List.length_append, hdl.out]; rfl, hnN2, HST, by show Ry _ _ _ _ _ _; rw [List.map_append]; simpa [Bv] using hR7.out, hE7⟩
      case measure =>
        show N - (n + 1) < N - n
        omega
end Go.Proofs.YtfkcdmbiihkiiaaGreatDoor
/- The document's Count, Digits, Bare. -/
namespace Go.Proofs.YtfkcdmbiihkiiaaGreatDoor
open Go.RowKit
set_option linter.unusedVariables false
set_option maxHeartbeats 400000
attribute [local go_sem ↓] app_shut
attribute [local go_sem] run_append_tok

/-- Digits made of any bytes. -/
def mk (S : ByteArray) (b : Nat) : List Nat := S.data.toList.map fun c => c.toNat % b
end Go.Proofs.YtfkcdmbiihkiiaaGreatDoor
