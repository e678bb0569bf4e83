/- The noughts ahead of a text fall. -/
import Derived.Test.YtfkcdmbiihkiiaaGreatDoorBam
import Derived.Test.YtfkcdmbiihkiiaaGreatDoorBax
import Derived.Test.YtfkcdmbiihkiiaaGreatDoorBaz
import Derived.Test.YtfkcdmbiihkiiaaGreatDoorBba
import Derived.Test.YtfkcdmbiihkiiaaGreatDoorBaj
import Derived.Ground.NamesProg
import Derived.Shelf.Lay
import Derived.Shelf.Strings.SlTrimAscii

namespace Go.Proofs
open Go.Shelf
shelf_lay Lays.n161 Nm 161 at Tryz as Tryz.lays161
end Go.Proofs
namespace Go.Proofs.YtfkcdmbiihkiiaaGreatDoor
open Go.RowKit Go.Shelf Go.Lib
set_option linter.unusedVariables false
set_option maxHeartbeats 1000000

theorem trim_calls (w : World) (ds : List Nat) (h : ∀ d ∈ ds, d < 36) :
    Calls Tryz.prog 88 #[.string (strD ds), .string ⟨#[48]⟩] w fun e w' => e = .returned (.string (strD (strip0 ds))) ∧ Ext w w' := by
  have hcon := Any.strings_TrimLeft_laid Tryz.lays161 (by kernel_rfl) (strD ds) ⟨#[48]⟩ w (by decide) (ascii_of_all (by decide))
  have e : (⟨(Lib.trimLeftS (strD ds).data.toList [48]).toArray⟩ : ByteArray) = strD (strip0 ds) := by
    rw [strD_data, trim_byteL ds h]; rfl
  change Calls Tryz.prog 88 _ _ (fun e w' => e = .returned (.string ⟨(Lib.trimLeftS (strD ds).data.toList [48]).toArray⟩) ∧ Below w.heap.size w w') at hcon
  rw [e] at hcon
  exact hcon
end Go.Proofs.YtfkcdmbiihkiiaaGreatDoor
/- The digits of a natural: the program's Text. -/
namespace Go.Proofs.YtfkcdmbiihkiiaaGreatDoor
open Go.RowKit
set_option linter.unusedVariables false
set_option maxHeartbeats 400000

theorem least_of (b n a : Nat) : ∀ m, a < kp b n m → ∃ I, I ≤ m ∧ a < kp b n I ∧ ∀ j, j < I → kp b n j ≤ a := by
  intro m
  induction m with
  | zero => intro h; exact ⟨0, Nat.le_refl _, h, fun j hj => by omega⟩
  | succ m ih =>
    intro h
    rcases Nat.lt_or_ge a (kp b n m) with h1 | h1
    · obtain ⟨I, h2, h3⟩ := ih h1
      exact ⟨I, by omega, h3⟩
    · by_cases h2 : ∃ j, j < m + 1 ∧ a < kp b n j
      · obtain ⟨j, hj, hj2⟩ := h2
        have hjm : j < m := by
          rcases Nat.lt_or_ge j m with h | h
          · exact h
          · obtain rfl : j = m := by omega
            omega
        have hmono : ∀ d, kp b n j ≤ kp b n (j + d) := by
          intro d
          induction d with
          | zero => exact Nat.le_refl _
          | succ d ihd =>
            rw [show j + (d + 1) = (j + d) + 1 by omega, kp_succ]
            rcases Nat.eq_zero_or_pos (kp b n (j + d)) with h0 | h0
            · rw [h0] at ihd ⊢; omega
            · exact Nat.le_trans ihd (Nat.le_mul_of_pos_left _ h0)
        have := hmono (m - j)
        rw [show j + (m - j) = m by omega] at this
        omega
      · refine ⟨m + 1, Nat.le_refl _, h, fun j hj => ?_⟩
        rcases Nat.lt_or_ge a (kp b n j) with h3 | h3
        · exact absurd ⟨j, hj, h3⟩ h2
        · exact h3
theorem least_kp (b n a : Nat) (hb : 2 ≤ b) (hn : 1 ≤ n) (hl : (limbs a).length ≤ 398) : ∃ I, I ≤ 10 ∧ a < kp b n I ∧ ∀ j, j < I → kp b n j ≤ a := by
  refine least_of b n a 10 ?_
  have h1 : a < 4294967296 ^ (limbs a).length := lt_of_len_le (Nat.le_refl _)
  generalize (limbs a).length = L at *
  have e0 : (4294967296 : Nat) = 2 ^ 32 := rfl
  rw [e0, ← Nat.pow_mul] at h1
  unfold kp
  obtain ⟨E, hE⟩ : ∃ E, 16 * n * 2 ^ 10 = E := ⟨_, rfl⟩
  have hE2 : 32 * L ≤ E := by
    have : (2 : Nat) ^ 10 = 1024 := rfl
    rw [this] at hE
    omega
  rw [hE]
  have h2 : 2 ^ (32 * L) ≤ 2 ^ E := Nat.pow_le_pow_right (by decide) hE2
  have h3 : 2 ^ E ≤ b ^ E := Nat.pow_le_pow_left hb E
  omega
theorem infoU8m : (Tryz.prog.info? 5).map (fun i => (i.zero, i.size, i.bytes)) = some (some (.int .u8 0), 1, 1) := by kernel_rfl
theorem infoU8_parts : ∃ i0 : TypeInfo, Tryz.prog.info? 5 = some i0 ∧ i0.zero = some (.int .u8 0) ∧ i0.size = 1 ∧ i0.bytes = 1 := by
  cases h : Tryz.prog.info? 5 with
  | none =>
    have := infoU8m
    rw [h] at this
    cases this
  | some i0 =>
    have := infoU8m
    rw [h] at this
    simp only [Option.map_some, Option.some.injEq, Prod.mk.injEq] at this
    exact ⟨i0, rfl, this.1, this.2.1, this.2.2⟩
/-- A new row of bytes. -/
theorem By.made {w1 : World} {base g n : Nat} (h : w1.ownsRow base 5 1 (.slice (some ⟨g, 0, none⟩) n n) n (madeCells (Value.int .u8 0).cells (n * 1)).toList) : By 5 w1 g (List.replicate n 0) := by
  have hm : (madeCells (Value.int .u8 0).cells (n * 1)).toList = List.replicate n (Value.int .u8 0) := by
    rw [Nat.mul_one]; exact toList_madeCells_one _ _
  rw [hm] at h
  rcases h.2 with ⟨e, _⟩ | ⟨g2, cap, cur, e, hbg, hg, hnc, hcm, hcs, htake⟩
  · cases e
  · injection e with e1 e2 e3
    injection e1 with e1
    injection e1 with e1
    subst e1
    subst e3
    have hcur : cur = (Bv (List.replicate n 0)).toArray := by
      apply Array.toList_inj.1
      have : cur.toList.take (n * 1) = cur.toList := List.take_of_length_le (by rw [Array.length_toList]; omega)
      rw [← this, htake]
      simp [Bv]
    unfold By
    rw [hg, hcur]
/-- Digits as text. -/
theorem text_of (w : World) (g len cap : Nat) (ds : List Nat) (hd : ∀ d ∈ ds, d < 36) (hl : ds.length = len) (h : By 5 w g (ds.map digB)) :
    (convert 85 9 (.slice (some ⟨g, 0, none⟩) len cap)).run Tryz.prog w = .ok (.string (strD ds)) w := by
  have := run_convert_bytes_back (P := Tryz.prog) w 85 9 5 ⟨g, 0, none⟩ cap (byteL ds) Tryz.underlying85 Tryz.underlying5 Tryz.underlying9 (fun j hj => by
    have hj2 : j < ds.length := by rwa [byteL_len] at hj
    rw [addr_zero_add, h.cell (j := j) (by rw [List.length_map]; exact hj2)]
    have e1 : ((byteL ds)[j]'hj).toNat = digB (ds[j]'hj2) := by
      simp only [byteL, List.getElem_map]
      exact digB_nat (hd _ (List.getElem_mem hj2))
    rw [e1]
    congr 2
    unfold lb
    simp [hj2])
  rw [byteL_len, hl] at this
  exact this
end Go.Proofs.YtfkcdmbiihkiiaaGreatDoor
/- The digits of a natural: the program's Text, walked. -/
namespace Go.Proofs.YtfkcdmbiihkiiaaGreatDoor
open Go.RowKit
set_option linter.unusedVariables false
set_option maxHeartbeats 400000

theorem text_fin (b a : Nat) (h2 : 2 ≤ b) : ∃ bb, (strD (nd b a)).toList.isEmpty = bb ∧ (bb = true ∧ strD (dt b a) = ⟨#[48]⟩ ∨ bb = false ∧ strD (dt b a) = strD (nd b a)) := by
  by_cases ha0 : a = 0
  · subst ha0
    exact ⟨true, by rw [nd_zero, ByteArray.toList_eq]; rfl, .inl ⟨rfl, by rw [dt_zero]; rfl⟩⟩
  · refine ⟨false, ?_, .inr ⟨rfl, by rw [dt_pos ha0]⟩⟩
    rw [ByteArray.toList_eq, strD_data]
    have := nd_ne ha0 h2
    cases e : nd b a with
    | nil => exact absurd e this
    | cons x xs => rfl

set_option maxRecDepth 100000 in
set_option maxHeartbeats 4000000 in
theorem text_calls (w : World) (va : Value) (a b : Nat) (hu : Un w va a) (hal : (limbs a).length ≤ 398) (h2 : 2 ≤ b) (h36 : b ≤ 36) :
    Calls Tryz.prog 48 #[va, .int .i64 (b : Nat)] w fun e w' => e = .returned (.tuple #[.string (strD (dt b a)), .int .i64 0]) ∧ Ext w w' := by
  obtain ⟨A, l, c, rfl⟩ := U.sl hu
  have hmf : ∀ (fn : Fn) (first cap : Array Value) (w : World), (Instr.makeFunc fn first cap).run Tryz.prog w = .ok (.func fn first cap) w := fun _ _ _ _ => rfl
  have hb2 : ¬ (b < 2) := by omega
  have hb36 : ¬ (36 < b) := by omega
  have hb2i : ¬ ((b : Int) < 2) := by omega
  have hb36i : ¬ ((b : Int) > 36) := by omega
  go_enter Tryz.func48, Tryz.ntmps48
  go_upto_region 7 with (first
    | (go_at_call 82; refine (scaleOf_calls _ b h2 h36).mono ?_; rintro e w3 ⟨⟨n, p, hS, rfl⟩, hE3⟩)
    | (go_at_call 83; refine (kpowers_calls _ w.heap.size b n p hS (by have := hE3.size; simp; omega)).mono ?_; rintro e w4 ⟨⟨Bk, rfl, hKp, hBk⟩, hE4⟩))
  have hsz4 := hE4.size
  have hs3 : w3.heap.size < w4.heap.size := by simp at hsz4; omega
  have hE5 : Ext w4 ((w4.alloc (.cells #[Pfn Bk] 82)).alloc (.cells #[Sfn w3.heap.size w4.heap.size (w4.heap.size + 1)] 84)) := ((Ext.refl w4).alloc _).alloc _
  have hSc5 := (SBx.new w3 b n p |>.ext hE4).ext hE5
  have hPb5 : Fb ((w4.alloc (.cells #[Pfn Bk] 82)).alloc (.cells #[Sfn w3.heap.size w4.heap.size (w4.heap.size + 1)] 84)) w4.heap.size (Pfn Bk) := ⟨by simp; omega, by go_simp⟩
  have hSb5 : Fb ((w4.alloc (.cells #[Pfn Bk] 82)).alloc (.cells #[Sfn w3.heap.size w4.heap.size (w4.heap.size + 1)] 84)) (w4.heap.size + 1) (Sfn w3.heap.size w4.heap.size (w4.heap.size + 1)) := ⟨by simp, by go_simp⟩
  have hKp5 := hKp.ext hE5
  have hE05 : Ext w ((w4.alloc (.cells #[Pfn Bk] 82)).alloc (.cells #[Sfn w3.heap.size w4.heap.size (w4.heap.size + 1)] 84)) := ((hE3.alloc _).below hE4).below hE5
  have hu5 : Un _ (.slice A l c) a := hu.below hE05
  unfold Pfn Sfn at *
  generalize ((w4.alloc (.cells #[.func (.func 114) #[] #[.pointer (some ⟨Bk, 0, none⟩)]] 82)).alloc (.cells #[.func (.func 84) #[] #[.pointer (some ⟨w3.heap.size, 0, none⟩), .pointer (some ⟨w4.heap.size, 0, none⟩), .pointer (some ⟨w4.heap.size + 1, 0, none⟩)]] 84)) = w5 at *
  have hB5 : w.heap.size ≤ w5.heap.size := hE05.size
  generalize w3.heap.size = S at *
  generalize w4.heap.size = Pb at *
  generalize Pb + 1 = Sb at *
  obtain ⟨I, hI10, haI, hlI⟩ := least_kp b n a h2 hS.n1 hal
  have hAB := Lib.hid (above_calls w5 w.heap.size b n Bk 1 a I _ hu5 hKp5 hB5 (by omega) haI hlI hal)
  have hPbc := hPb5.2
  clear hKp hE5 hE4 hE3 hsz4 hs3 hBk
  go_upto_region 8 with (go_at_call 86; refine hAB.out.mono ?_; rintro e w6 ⟨rfl, ⟨K, hIK, _, hKp6⟩, hKe6⟩)
  have hE6 : Ext w w6 := Below.trans hE05 hKe6.below
  have hSc6 := hSc5.kee hKe6
  have hPb6 := hPb5.kee hKe6 (by rintro ⟨_, _, _, e⟩; cases e)
  have hSb6 := hSb5.kee hKe6 (by rintro ⟨_, _, _, e⟩; cases e)
  have hu6 := Un.kee hu5 hKe6
  obtain ⟨s0, s1, s2, s3⟩ := id hSc6
  obtain ⟨T, hT⟩ : ∃ T, 2 ^ I = T := ⟨_, rfl⟩
  have hT1 : T ≤ 1024 ∧ 1 ≤ T := by rw [← hT]; exact ⟨Nat.pow_le_pow_right (by decide) hI10, Nat.two_pow_pos I⟩
  obtain ⟨len, hlen⟩ : ∃ len, 16 * n * T = len := ⟨_, rfl⟩
  have hlen5 : len ≤ 16 * 31 * 1024 := by rw [← hlen]; exact Nat.mul_le_mul (Nat.mul_le_mul_left _ hS.n32) hT1.1
  clear hAB hPbc hSc5 hPb5 hSb5 hu5 hKp5 hE05 hKe6
  have o0 : (16 : Int) * (n : Int) * 2 ^ I = (len : Int) := by
    rw [← hlen, ← hT]; simp
  have o1 : IntKind.i64.wrap ((16 : Int) * (n : Int) * 2 ^ I) = (len : Int) := by rw [o0, IntKind.wrap_i64]; omega
  have o2 : IntKind.i64.wrap (len : Int) = (len : Int) := by rw [IntKind.wrap_i64]; omega
  have hlen1 : 1 ≤ len := by rw [← hlen]; have := hS.n1; exact Nat.mul_pos (by omega) hT1.2
  obtain ⟨i0, hi, hz0, hz1, hz2⟩ := infoU8_parts
  have HT := Lib.hid hT
  have HLEN := Lib.hid hlen
  have hd36 : Hid (∀ d ∈ bdig b a len, d < 36) := fun d hd => Nat.lt_of_lt_of_le (bdig_lt b _ _ (by omega) d hd) h36
  have hst : strip0 (bdig b a len) = nd b a := strip0_bdig b h2 len a (by have := haI; unfold kp at this; rw [hT, hlen] at this; exact this)
  have hTRIM := Lib.hid (fun W => trim_calls W (bdig b a len) hd36.out)
  rw [hst] at hTRIM
  obtain ⟨bb, hie, hfin⟩ := text_fin b a h2
  clear hT hlen hT1
  generalize strD (nd b a) = T1 at *
  rcases hfin with ⟨rfl, hf⟩ | ⟨rfl, hf⟩
  all_goals (
   have HF := Lib.hid hf
   clear hf
   go_wp2_with (first
    | (go_at_call 87; refine (piece_calls _ b n p hS).mono ?_; rintro e w7 ⟨rfl, hE7⟩; have hE07 := hE6.below hE7; have hg7 := hE07.size)
    | (at_make; refine wpList_make_full _ rfl _ _ 85 rfl w7.heap.size 5 i0 (.int .u8 0) 1 Tryz.underlying85 hi hz0 hz1 _ _ _ _ len rfl rfl (by omega) (by omega) (by rw [hz2]; omega) (by unfold maxLen; omega) (by simp) ?_; intro w8 hown hgrow; have hE8 : Ext w7 w8 := (Ext.refl w7).grown hgrow (Nat.le_refl _) (fun _ h => by cases h); have hBy8 := By.made hown; have hE78 := hE7.below hE8; have hSb8 := hSb6.ext hE78; have hcSb := hSb8.2; have hL8 : Lie w.heap.size b n p w8 S Pb Sb Bk K := ⟨hSc6.ext hE78, hPb6.ext hE78, hSb8, hKp6.ext hE78⟩; have hu8 := Un.below hu6 hE78; have hE08 := hE07.below hE8; have hBy8' : By 5 w8 w7.heap.size ([] ++ (List.replicate len 0 ++ [])) := (by { simpa using hBy8 }); have hSP := Lib.hid (split_calls w.heap.size b n p S Pb Sb Bk K w7.heap.size len hS (by omega) I hIK (by omega) (fun j hj => kp_len (hlI j hj) hal) w8 0 len len [] (List.replicate len 0) [] hBy8' rfl (by simp) (by rw [HT.out]; exact HLEN.out) (Nat.le_refl _) (Nat.le_refl _) (by omega) (.slice A l c) a hu8 (by omega) haI hL8 hE08.size); clear hown hgrow hE8 hBy8 hBy8' hE78 hL8 hu8 hSb8 hE07 hE7)
    | (go_at_call 84; refine hSP.out.mono ?_; rintro e w9 ⟨rfl, hBy9, hbut9⟩; have hE9 := hE08.but hbut9 hg7; have hcv := text_of w9 w7.heap.size len len (bdig b a len) hd36.out (bdig_len _ _ _) (by { simpa using hBy9 }); have hTR := hTRIM.out w9; generalize strD (bdig b a len) = T0 at *; clear hBy9 hbut9)
    | (go_at_call 88; refine hTR.mono ?_; rintro e w10 ⟨rfl, hE10⟩))
   go_ret2
   exact ⟨by rw [HF.out]; first | done | rfl, hE9.below hE10⟩)
end Go.Proofs.YtfkcdmbiihkiiaaGreatDoor
/- A text is read: the program's Read. -/
namespace Go.Proofs.YtfkcdmbiihkiiaaGreatDoor
open Go.RowKit
set_option linter.unusedVariables false
set_option maxHeartbeats 400000

theorem worL_at (S : ByteArray) (i : Nat) (hi : i < S.size) : lb (worL S) i = worB ((S[i]'hi).toNat) := by
  unfold lb worL
  have h2 : i < S.data.toList.length := by rw [Array.length_toList]; exact hi
  simp only [List.getElem?_map, List.getElem?_eq_getElem h2, Option.map_some, Option.getD_some, Array.getElem_toList]
  rfl
theorem worL_mem (S : ByteArray) (b : Nat) (h : ∀ j, j < S.size → lb (worL S) j < b) : ∀ d ∈ worL S, d < b := by
  intro d hd
  obtain ⟨j, hj, rfl⟩ := List.getElem_of_mem hd
  have h1 := h j (by rw [worL_len] at hj; exact hj)
  unfold lb at h1
  simpa [hj] using h1
/-- What Read answers. -/
def RdA (w w' : World) (e : Ending) (S : ByteArray) (b : Nat) : Prop :=
  (∃ i, i < S.size ∧ (∀ j, j < i → lb (worL S) j < b) ∧ b ≤ lb (worL S) i ∧ e = .returned (.tuple #[.slice none 0 0, .int .i64 (i : Nat), .int .i64 50]) ∧ w' = w) ∨
  (S.size = 0 ∧ e = .returned (.tuple #[.slice none 0 0, .int .i64 0, .int .i64 50]) ∧ w' = w) ∨
  (S.size ≠ 0 ∧ (∀ d ∈ worL S, d < b) ∧ ∃ u, e = .returned (.tuple #[u, .int .i64 0, .int .i64 0]) ∧ Un w' u (bval b (worL S)) ∧ Ext w w')
theorem isEmpty_size (S : ByteArray) : S.toList.isEmpty = decide (S.size = 0) := by
  rw [ByteArray.toList_eq]
  show S.data.toList.isEmpty = decide (S.data.size = 0)
  cases h : S.data.toList with
  | nil =>
    have : S.data.size = 0 := by rw [← Array.length_toList, h]; rfl
    rw [this]; rfl
  | cons x xs =>
    have : S.data.size ≠ 0 := by rw [← Array.length_toList, h]; simp
    rw [decide_eq_false this]; rfl
theorem strip0_le (ds : List Nat) : (strip0 ds).length ≤ ds.length := by
  obtain ⟨k, hk⟩ := strip0_split ds
  have := congrArg List.length hk
  rw [List.length_append, List.length_replicate] at this
  omega
theorem strip0_mem (ds : List Nat) : ∀ d ∈ strip0 ds, d ∈ ds := by
  intro d hd
  obtain ⟨k, hk⟩ := strip0_split ds
  rw [hk]
  exact List.mem_append_right _ hd
set_option maxRecDepth 100000 in
set_option maxHeartbeats 4000000 in
theorem read_calls (w : World) (S : ByteArray) (b : Nat) (h2 : 2 ≤ b) (h36 : b ≤ 36) (hl : S.size ≤ 19000) (hM : (limbs (b ^ S.size)).length ≤ 398) :
    Calls Tryz.prog 68 #[.string S, .int .i64 (b : Nat)] w fun e w' => RdA w w' e S b := by
  have hmf : ∀ (fn : Fn) (first cap : Array Value) (w : World), (Instr.makeFunc fn first cap).run Tryz.prog w = .ok (.func fn first cap) w := fun _ _ _ _ => rfl
  have hb2 : ¬ (b < 2) := by omega
  have hb36 : ¬ (36 < b) := by omega
  have hb2i : ¬ ((b : Int) < 2) := by omega
  have hb36i : ¬ ((b : Int) > 36) := by omega
  have hat := Lib.hid (worL_at S)
  have hws := Lib.hid (worL_mem S b)
  have hwl := Lib.hid (worL_len S)
  have hie := isEmpty_size S
  obtain ⟨L, hL⟩ : ∃ L, S.size = L := ⟨_, rfl⟩
  have HL := Lib.hid hL
  rw [hL] at hl hM hie
  unfold RdA
  go_enter Tryz.func68, Tryz.ntmps68
  go_wp2
  go_loopw [19] (fun t wr => ∃ i, i ≤ L ∧ t = .int .i64 (i : Nat) ∧ Hid (∀ j, j < i → lb (worL S) j < b) ∧ wr = w) (fun t _ => L - (intOf t).toNat)
  case atStart => exact ⟨0, Nat.zero_le _, rfl, fun j hj => by omega, rfl⟩
  case round =>
    obtain ⟨i, hi, rfl, HI, rfl⟩ := hrel
    by_cases hlt : i < L
    · have hi1 : (i : Int) < (L : Int) := by omega
      have hi2 : i < S.size := by omega
      have h1 := hat.out i hi2
      obtain ⟨c, hc⟩ : ∃ c, (S[i]'hi2).toNat = c := ⟨_, rfl⟩
      have hc256 : c < 256 := by rw [← hc]; exact UInt8.toNat_lt _
      rw [hc] at h1
      obtain ⟨v, hv⟩ : ∃ v, worB c = v := ⟨_, rfl⟩
      have hv99 := worB_le c
      rw [hv] at h1 hv99
      have hbw : IntKind.u32.wrap (b : Int) = (b : Int) := by rw [IntKind.wrap_u32]; omega
      have hbm : (b : Int) % 4294967296 = (b : Int) := by omega
      by_cases hge : b ≤ v
      · have hge1 : (b : Int) ≤ (v : Int) := by omega
        have HE : Hid (b ≤ lb (worL S) i) := by rw [h1]; exact hge
        clear h1
        go_wp2_with (go_at_call 103; refine (worth_calls _ c hc256).mono ?_; rintro e w3 ⟨rfl, rfl⟩; rw [hv])
        go_ret3
        exact .inl ⟨i, by rw [HL.out]; exact hlt, HI.out, HE.out, rfl, rfl⟩
      · have hge1 : ¬ ((b : Int) ≤ (v : Int)) := by omega
        have HN : Hid (∀ j, j < i + 1 → lb (worL S) j < b) := fun j hj => by
          rcases Nat.lt_or_ge j i with h | h
          · exact HI.out j h
          · obtain rfl : j = i := by omega
            rw [h1]; omega
        clear h1 HI
        go_wp2_with (go_at_call 103; refine (worth_calls _ c hc256).mono ?_; rintro e w3 ⟨rfl, rfl⟩; rw [hv])
        go_roundw
        case rel => exact ⟨i + 1, by omega, by go_num, HN, by trivial⟩
        case measure => simp [intOf]; omega
    · obtain rfl : i = L := by omega
      by_cases h0 : i = 0
      · have hie2 : S.toList.isEmpty = true := by rw [hie, h0]; rfl
        have HL0 : Hid (S.size = 0) := by show _ = _; rw [HL.out, h0]
        clear hie h0
        go_wp2
        go_ret3
        exact .inr (.inl ⟨HL0.out, rfl, rfl⟩)
      · have hie2 : S.toList.isEmpty = false := by rw [hie]; exact decide_eq_false h0
        have HL0 : Hid (S.size ≠ 0) := by show _ ≠ _; rw [HL.out]; exact h0
        have hda := hws.out (fun j hj => HI.out j (by rw [← HL.out]; exact hj))
        have HDA := Lib.hid hda
        clear hie h0 HI hda hlt
        obtain ⟨ds, hds⟩ : ∃ ds, worL S = ds := ⟨_, rfl⟩
        rw [hds] at HDA hwl
        have hd36 : ∀ d ∈ ds, d < 36 := fun d h => by have := HDA.out d h; omega
        have eS : strD ds = S := by rw [← hds]; exact strD_worL S (by rw [hds]; exact hd36)
        have hTR := Lib.hid (fun W => trim_calls W ds hd36)
        rw [eS] at hTR
        have hsl : (strip0 ds).length ≤ i := by have := strip0_le ds; have := hwl.out; have := HL.out; omega
        have hJC := Lib.hid (fun n p (hS : Sc b n p) Sx Jb Pb Bk W h1 h2 h3 h4 => rjoin_calls wr.heap.size b n p Sx Jb Pb Bk i hS hM hl (strip0 ds).length hsl W (strip0 ds) 1 rfl (fun d h => HDA.out d (strip0_mem ds d h)) h1 h2 h3 h4)
        have HVAL := Lib.hid (bval_strip0 b ds)
        have HDS := Lib.hid hds
        generalize strD (strip0 ds) = T1 at *
        clear hds hd36 eS hsl hM
        go_upto_region 15 with (first
          | (go_at_call 82; refine (scaleOf_calls _ b h2 h36).mono ?_; rintro e w3 ⟨⟨n, p, hS, rfl⟩, hE3⟩)
          | (go_at_call 83; refine (kpowers_calls _ wr.heap.size b n p hS (by have := hE3.size; simp; omega)).mono ?_; rintro e w4 ⟨⟨Bk, rfl, hKp, hBk⟩, hE4⟩))
        have hsz4 := hE4.size
        have hs3 : w3.heap.size < w4.heap.size := by simp at hsz4; omega
        have hE5 : Ext w4 ((w4.alloc (.cells #[Pfn Bk] 82)).alloc (.cells #[Jfn w3.heap.size (w4.heap.size + 1) w4.heap.size] 102)) := ((Ext.refl w4).alloc _).alloc _
        have hSc5 := (SBx.new w3 b n p |>.ext hE4).ext hE5
        have hJ5 : Jx w3.heap.size (w4.heap.size + 1) w4.heap.size Bk ((w4.alloc (.cells #[Pfn Bk] 82)).alloc (.cells #[Jfn w3.heap.size (w4.heap.size + 1) w4.heap.size] 102)) := ⟨⟨by simp, by go_simp⟩, ⟨by simp; omega, by go_simp⟩⟩
        have hKp5 := hKp.ext hE5
        have hE05 : Ext wr ((w4.alloc (.cells #[Pfn Bk] 82)).alloc (.cells #[Jfn w3.heap.size (w4.heap.size + 1) w4.heap.size] 102)) := ((hE3.alloc _).below hE4).below hE5
        unfold Pfn Jfn at *
        generalize ((w4.alloc (.cells #[.func (.func 114) #[] #[.pointer (some ⟨Bk, 0, none⟩)]] 82)).alloc (.cells #[.func (.func 104) #[] #[.pointer (some ⟨w3.heap.size, 0, none⟩), .pointer (some ⟨w4.heap.size + 1, 0, none⟩), .pointer (some ⟨w4.heap.size, 0, none⟩)]] 102)) = w5 at *
        have hB5 : wr.heap.size ≤ w5.heap.size := hE05.size
        generalize w3.heap.size = Sx at *
        generalize w4.heap.size = Pb at *
        generalize Pb + 1 = Jb at *
        have hEd : Ext w5 w5.drew := (Ext.refl w5).drew
        have hS0 : (Jb < w5.drew.heap.size ∧ w5.drew.cell? ⟨Jb, 0, none⟩ = some (.func (.func 104) #[] #[.pointer (some ⟨Sx, 0, none⟩), .pointer (some ⟨Jb, 0, none⟩), .pointer (some ⟨Pb, 0, none⟩)])) ∧ (Pb < w5.drew.heap.size ∧ w5.drew.cell? ⟨Pb, 0, none⟩ = some (.func (.func 114) #[] #[.pointer (some ⟨Bk, 0, none⟩)])) := hJ5.ext hEd
        have hJ5d : Jx Sx Jb Pb Bk w5.drew := hJ5.ext hEd
        have hSc5d := hSc5.ext hEd
        have hKp5d := hKp5.ext hEd
        have hTR5 := Lib.hid (hTR.out w5.drew)
        clear hKp hE5 hE4 hE3 hsz4 hs3 hBk hJ5 hSc5 hKp5 hTR
        go_region_held3 (fun X => (Jb < X.heap.size ∧ X.cell? ⟨Jb, 0, none⟩ = some (.func (.func 104) #[] #[.pointer (some ⟨Sx, 0, none⟩), .pointer (some ⟨Jb, 0, none⟩), .pointer (some ⟨Pb, 0, none⟩)])) ∧ (Pb < X.heap.size ∧ X.cell? ⟨Pb, 0, none⟩ = some (.func (.func 114) #[] #[.pointer (some ⟨Bk, 0, none⟩)])))
          (first
            | exact hS0
            | assumption
            | exact keepJ (by assumption) (by assumption)
            | exact keepJE (by assumption) (by assumption))
          (first
            | (go_at_call 88; ((with_reducible refine hTR5.out.mono ?_); rintro e6 w6 ⟨rfl, hE6⟩; have hJj := Lib.hid (hJC.out n p hS Sx Jb Pb Bk w6 (hSc5d.ext hE6) (hJ5d.ext hE6) (hKp5d.ext hE6) (Nat.le_trans hB5 hE6.size))))
            | (go_at_call 104; ((with_reducible refine hJj.out.mono ?_); rintro e7 w7 ⟨⟨u7, rfl, hu7⟩, ⟨K7, hKp7⟩, hKe7⟩; obtain ⟨A7, l7, c7, rfl⟩ := U.sl hu7)))
        rw [HVAL.out] at hu7
        have HU := Lib.hid hu7
        have HE7 := Lib.hid (Below.trans ((hE05.below hEd).below hE6) hKe7.below)
        clear hu7
        (try go_wp2)
        go_ret3
        exact .inr (.inr ⟨HL0.out, by rw [HDS.out]; exact HDA.out, _, rfl, by rw [HDS.out]; exact HU.out, HE7.out⟩)
end Go.Proofs.YtfkcdmbiihkiiaaGreatDoor
/- How many digits: the program's Count. -/
namespace Go.Proofs.YtfkcdmbiihkiiaaGreatDoor
open Go.RowKit
set_option linter.unusedVariables false
set_option maxHeartbeats 400000

/-- The count so far: N digits lie behind a. -/
structure CtI (b n a0 k a N : Nat) : Prop where
  lt : a < kp b n k
  len : (nd b a0).length = N + (nd b a).length
  nz : a = 0 → a0 = 0
  le : a ≤ a0
theorem CtI.start {b n a0 k : Nat} (h : a0 < kp b n k) : CtI b n a0 k a0 0 := ⟨h, by omega, fun h => h, Nat.le_refl _⟩
theorem CtI.cut {b n a0 k a N : Nat} (h : CtI b n a0 (k + 1) a N) (hb : 2 ≤ b) (hge : kp b n k ≤ a) (q : Nat) (hq : a / kp b n k = q) : CtI b n a0 k q (N + 16 * n * 2 ^ k) := by
  have h1 := (kp_split b n k a hb h.lt).1
  have h2 := nd_split b hb a (16 * n * 2 ^ k) hge
  have h3 := congrArg List.length h2
  rw [List.length_append, bdig_len] at h3
  have h0 : 0 < kp b n k := by unfold kp; exact Nat.pow_pos (by omega)
  rw [hq] at h1
  refine ⟨h1, ?_, fun e => ?_, Nat.le_trans (by rw [← hq]; exact Nat.div_le_self _ _) h.le⟩
  · rw [h.len, h3]
    have : a / b ^ (16 * n * 2 ^ k) = q := hq
    rw [this]; omega
  · exfalso
    have := Nat.div_pos hge h0
    omega
theorem CtI.done {b n a0 a N : Nat} (h : CtI b n a0 0 a N) (hb : 2 ≤ b) (m : Nat) (hm : (if (nd b a).length < 1 then 1 else (nd b a).length) = m) : (dt b a0).length = N + m := by
  have hl := h.len
  by_cases ha : a = 0
  · have h0 := h.nz ha
    subst ha
    subst h0
    rw [nd_zero] at hm hl
    rw [dt_zero]
    simp at hm hl
    simp
    omega
  · have h0 : a0 ≠ 0 := fun e => ha (by have := h.le; omega)
    rw [dt_pos h0, hl]
    have : 1 ≤ (nd b a).length := by
      have := nd_ne ha hb
      cases e : nd b a with
      | nil => exact absurd e this
      | cons x xs => simp
    rw [if_neg (by omega)] at hm
    omega

end Go.Proofs.YtfkcdmbiihkiiaaGreatDoor
/- The document's own Same, Nat, Base. -/
namespace Go.Proofs.YtfkcdmbiihkiiaaGreatDoor
open Go.RowKit
set_option linter.unusedVariables false
set_option maxHeartbeats 400000
set_option maxRecDepth 100000
attribute [local go_sem ↓] app_shut
attribute [local go_sem] run_append_tok

theorem rbase_bad (w : World) (b : Int) (h : b < 2 ∨ 36 < b) :
    Calls Tryz.prog 106 #[.int .i64 b] w fun e w' => e = .returned (.bool false) ∧ w' = w := by
  rcases h with h | h
  · have h1 : ¬ (2 ≤ b) := by omega
    go_enter Tryz.func106, Tryz.ntmps106
    go_wp2
    go_ret
    exact ⟨by simp, rfl⟩
  · have h1 : 2 ≤ b := by omega
    have h3 : ¬ (b ≤ 36) := by omega
    go_enter Tryz.func106, Tryz.ntmps106
    go_wp2
    go_ret
    exact ⟨by simp, rfl⟩

theorem min_facts {L K m : Nat} (h : min L K = m) : (if (K : Int) < (L : Int) then (K : Int) else (L : Int)) = (m : Int) ∧ (if K < L then (K : Int) else (L : Int)) = (m : Int) ∧ min (L : Int) (K : Int) = (m : Int) ∧ m ≤ L ∧ m ≤ K := by
  refine ⟨?_, ?_, ?_, ?_, ?_⟩
  · split <;> omega
  · split <;> omega
  · omega
  · omega
  · omega
theorem take_min (xs : List Nat) (K m : Nat) (h : min xs.length K = m) : xs.take K = xs.take m := by
  rcases Nat.le_total xs.length K with h1 | h1
  · rw [List.take_of_length_le h1, List.take_of_length_le (by omega)]
  · rw [show m = K by omega]
theorem rnat_calls (w : World) (v : Value) (xs : List Nat) (h : U w v xs) (K m : Nat) (hK : K ≤ 1000000000000) (hm0 : min xs.length K = m) :
    Calls Tryz.prog 142 #[v, .int .i64 (K : Nat)] w fun e w' => (∃ u, e = .returned u ∧ Un w' u (val (xs.take K))) ∧ Ext w w' := by
  have h' := h
  obtain ⟨A, c, rfl, ⟨hc, hm⟩, hx, hr⟩ := h
  obtain ⟨hmin1, hmin2, hmin3, hml, hmK⟩ := min_facts hm0
  have hys := Lib.hid (take_min xs K m hm0)
  have hm12 : m ≤ 1000000000000 := Nat.le_trans hmK hK
  clear hm0
  go_enter Tryz.func142, Tryz.ntmps142
  go_wp2
  clear hmin1 hmin2 hmin3
  go_loop [5] (fun n => ∃ k : Nat, k ≤ m ∧ n = .int .i64 k ∧ Hid (∀ j, k ≤ j → j < m → lb xs j = 0)) (fun n => (intOf n).toNat)
  case atStart => exact ⟨m, Nat.le_refl _, rfl, fun j h1 h2 => by omega⟩
  case round =>
    obtain ⟨k, hk, rfl, hz⟩ := hrel
    have hkl : k ≤ xs.length := by omega
    have hfin : (0 < k → lb xs (k - 1) ≠ 0) → ∃ v' w', (Builtin.append_ #[22, 22] 22 #[.slice (some ⟨w.heap.size, 0, none⟩) 0 0, .slice A k c]).run Tryz.prog (w.alloc (.cells #[] 56)) = .ok v' w' ∧ Un w' v' (val (xs.take K)) ∧ Ext w w' := fun h2 => by
      have hB : Below w.heap.size w (w.alloc (.cells #[] 56)) := (Below.refl _ _).alloc (Nat.le_refl _) _
      have hown : Own (w.alloc (.cells #[] 56)) w.heap.size (.slice (some ⟨w.heap.size, 0, none⟩) 0 0) [] := World.ownsRow_lit w #[] 0 (Nat.le_refl _) (Nat.zero_le _) rfl
      have hu : U w (.slice A k c) (xs.take k) := h'.take hkl (by omega)
      have htl : (xs.take k).length = k := by simp; omega
      obtain ⟨v', w', hrun, ho, hg⟩ := run_append_U _ w.heap.size _ [] hown _ _ (hu.below hB) (by rw [htl]; simp; omega) hB.size
      refine ⟨v', w', hrun, ?_, hB.grown hg hB.size (fun j e => by cases e; exact Nat.le_refl _)⟩
      rw [List.nil_append] at ho
      have hU := ho.toU (fun x hx' => hx x (List.mem_of_mem_take hx')) (by rw [htl]; omega)
      have hyl : (xs.take m).length = m := by rw [List.length_take]; omega
      have hst := strip_eq (xs.take m) k (fun x hx' => hx x (List.mem_of_mem_take hx')) (by rw [hyl]; exact hk) (fun j h1 h2 => by rw [hyl] at h2; rw [lb_take h2]; exact hz.out j h1 h2) (fun h0 => by rw [lb_take (by omega)]; exact h2 h0)
      rw [List.take_take, Nat.min_eq_left hk] at hst
      rw [Un, hys.out, hst]
      exact hU
    rcases Nat.eq_zero_or_pos k with rfl | h0
    · obtain ⟨v', w', hrun, HU, HB⟩ := hfin (fun h => absurd h (by omega))
      obtain ⟨t1, t2, t3⟩ := app_tok hrun
      clear hfin hrun
      go_wp2
      go_ret
      exact ⟨⟨_, rfl, HU⟩, HB⟩
    · obtain ⟨ad, rfl, hb, hcell⟩ := hr (by omega)
      have hc1 := hcell (k - 1) (by omega)
      by_cases hx0 : lb xs (k - 1) = 0
      · have ht : ((((lb xs (k - 1) : Nat)) : Int) == 0) = true := by rw [hx0]; rfl
        have HX := Lib.hid hx0
        clear hx0 hfin
        go_wp2
        go_round
        case rel => exact ⟨k - 1, by omega, by go_num, fun j h1 h2 => by
          rcases Nat.lt_or_ge j k with h3 | h3
          · have : j = k - 1 := by omega
            subst this; exact HX.out
          · exact hz.out j h3 h2⟩
        case measure => simp [intOf]; omega
      · have ht : ((((lb xs (k - 1) : Nat)) : Int) == 0) = false := by rw [beq_eq_false_iff_ne]; omega
        obtain ⟨v', w', hrun, HU, HB⟩ := hfin (fun _ => hx0)
        obtain ⟨t1, t2, t3⟩ := app_tok hrun
        clear hfin hrun hx0
        go_wp2
        go_ret
        exact ⟨⟨_, rfl, HU⟩, HB⟩
end Go.Proofs.YtfkcdmbiihkiiaaGreatDoor
/- The document's over: a natural over a small number. -/
namespace Go.Proofs.YtfkcdmbiihkiiaaGreatDoor
open Go.RowKit
set_option linter.unusedVariables false
set_option maxHeartbeats 400000

/-- The limbs from k on are divided. -/
structure OvI (xs : List Nat) (m k : Nat) (o : List Nat) (rs : Nat) : Prop where
  len : o.length = xs.length
  lt : ∀ x ∈ o, x < 4294967296
  rest : rs < m
  val : val (xs.drop k) = m * val (o.drop k) + rs
theorem OvI.start (xs : List Nat) (m : Nat) (hm : 0 < m) : OvI xs m xs.length (List.replicate xs.length 0) 0 :=
  ⟨by simp, fun x hx => by rw [List.eq_of_mem_replicate hx]; decide, hm, by rw [List.drop_eq_nil_of_le (Nat.le_refl _), List.drop_eq_nil_of_le (by simp)]; simp [Proofs.YtfkcdmbiihkiiaaGreatDoor.val]⟩
theorem OvI.step {xs : List Nat} {m j : Nat} {o : List Nat} {rs : Nat} (h : OvI xs m (j + 1) o rs) (hj : j < xs.length) (x n q r : Nat) (hx : lb xs j = x) (hxb : x < 4294967296) (hn : 4294967296 * rs + x = n) (hq : n / m = q) (hr : n % m = r) :
    q < 4294967296 ∧ OvI xs m j (o.set j q) r := by
  have hm : 0 < m := Nat.lt_of_le_of_lt (Nat.zero_le _) h.rest
  have hq1 : q < 4294967296 := by
    rw [← hq]
    refine Nat.div_lt_of_lt_mul ?_
    have h1 : 4294967296 * (rs + 1) ≤ 4294967296 * m := Nat.mul_le_mul_left _ h.rest
    rw [Nat.mul_comm m]
    omega
  refine ⟨hq1, by rw [List.length_set]; exact h.len, set_lt h.lt hq1, by rw [← hr]; exact Nat.mod_lt _ hm, ?_⟩
  have hjo : j < (o.set j q).length := by rw [List.length_set, h.len]; exact hj
  rw [val_cons_drop xs j hj, hx, h.val, val_cons_drop (o.set j q) j hjo, lb_set_same q (by rw [h.len]; exact hj), List.drop_set_of_lt (by omega)]
  have e : m * q + r = n := by rw [← hq, ← hr]; exact Nat.div_add_mod n m
  generalize Proofs.YtfkcdmbiihkiiaaGreatDoor.val (o.drop (j + 1)) = V
  have e2 : m * (4294967296 * V) = 4294967296 * (m * V) := Nat.mul_left_comm _ _ _
  generalize m * V = mV at *
  first
    | (rw [Nat.mul_add m, e2]; omega)
    | (rw [Nat.add_comm q, Nat.mul_add m, e2]; omega)
theorem OvI.done {xs : List Nat} {m : Nat} {o : List Nat} {rs a : Nat} (h : OvI xs m 0 o rs) (ha : Proofs.YtfkcdmbiihkiiaaGreatDoor.val xs = a) : Proofs.YtfkcdmbiihkiiaaGreatDoor.val o = a / m ∧ rs = a % m := by
  have h1 := h.val
  rw [List.drop_zero, List.drop_zero, ha] at h1
  have hm : 0 < m := Nat.lt_of_le_of_lt (Nat.zero_le _) h.rest
  constructor
  · rw [h1, Nat.mul_add_div hm, Nat.div_eq_of_lt h.rest, Nat.add_zero]
  · rw [h1, Nat.mul_add_mod, Nat.mod_eq_of_lt h.rest]

set_option maxRecDepth 100000 in
set_option maxHeartbeats 4000000 in
theorem rover_calls (w : World) (v : Value) (a m : Nat) (hu : Un w v a) (hm1 : 1 ≤ m) (hm2 : m ≤ 1000000) (hl : (limbs a).length ≤ 100000) :
    Calls Tryz.prog 110 #[v, .int .i64 (m : Nat)] w fun e w' => (∃ u, e = .returned (.tuple #[u, .int .i64 ((a % m : Nat) : Int)]) ∧ Un w' u (a / m)) ∧ Ext w w' := by
  have hva := val_limbs a
  have h' : U w v (limbs a) := hu
  generalize limbs a = xs at *
  clear hu
  obtain ⟨A, c, rfl, ⟨hc, hmx⟩, hx, hr0⟩ := h'
  obtain ⟨L, hL⟩ : ∃ L, xs.length = L := ⟨_, rfl⟩
  have HL := Lib.hid hL
  have HI0 := Lib.hid (OvI.start xs m (by omega))
  rw [hL] at hc hmx hr0 hl HI0 ⊢
  have HDN := Lib.hid (fun o rs (h : OvI xs m 0 o rs) => h.done hva)
  clear hL hva
  obtain ⟨i0, hi, hz0, hz1, hz2⟩ := info_parts info32
  go_enter Tryz.func110, Tryz.ntmps110
  go_wp2_with (at_make; refine wpList_make_full _ rfl _ _ 22 rfl w.heap.size 56 i0 (.int .u32 0) 1 Tryz.underlying22 hi hz0 hz1 _ _ _ _ L rfl rfl (by omega) (by omega) (by rw [hz2]; omega) (by unfold maxLen; omega) (by simp) ?_; intro w1 hown hgrow)
  have ho0 := Own.zeros hown
  have hB0 : Ext w w1 := (Ext.refl w).grown hgrow (by simp) (fun _ h => by cases h)
  clear hown hgrow
  rw [List.length_replicate] at ho0
  clear hi hz0 hz1 hz2 i0
  go_loopw [8, 7] (fun t s wr => ∃ (k rs : Nat) (z : Int) (o : List Nat), k ≤ L ∧ t = .int .i64 z ∧ z = (k : Int) - 1 ∧ s = .int .u64 (rs : Nat) ∧ rs < m ∧ Hid (OvI xs m k o rs) ∧ Own wr w.heap.size (.slice (some ⟨w.heap.size, 0, none⟩) L L) o ∧ Ext w wr) (fun t _ _ => (intOf t + 1).toNat)
  case atStart => exact ⟨L, 0, _, _, Nat.le_refl _, rfl, rfl, rfl, by omega, HI0, ho0, hB0⟩
  case round =>
    clear HI0 ho0 hB0
    obtain ⟨k, rs, z, o, hk, rfl, hz, rfl, hrb, HO, hown, hE⟩ := hrel
    have hol : o.length = L := by rw [HO.out.len]; exact HL.out
    cases k with
    | zero =>
      obtain rfl : z = -1 := by omega
      clear hz
      obtain ⟨h1, h2⟩ := HDN.out o rs HO.out
      have hU := hown.toU HO.out.lt (by omega)
      have hrn := Lib.hid (rnat_calls wr _ o hU L L (by omega) (by omega))
      have htk : Hid (val (o.take L) = a / m) := by show _ = _; rw [List.take_of_length_le (by omega)]; exact h1
      have H2 := Lib.hid h2
      have hrw : IntKind.i64.wrap (rs : Int) = (rs : Int) := by rw [IntKind.wrap_i64]; omega
      have hrm : (rs : Int) % 18446744073709551616 = (rs : Int) := by omega
      clear h1 h2 HO HDN hU hown
      go_wp2_with (go_at_call 142; refine hrn.out.mono ?_; rintro e w4 ⟨⟨u, rfl, hu4⟩, hE4⟩; obtain ⟨A4, l4, c4, rfl⟩ := U.sl hu4)
      go_ret2
      rw [htk.out] at hu4
      exact ⟨⟨_, by rw [← H2.out]; first | done | rfl, hu4⟩, hE.below hE4⟩
    | succ j =>
      obtain rfl : z = (j : Int) := by omega
      clear hz
      obtain ⟨ad, rfl, hb, hcell⟩ := hr0 (by omega)
      have hc0 := (hE.cell (p := ad.add j) (by rw [addr_add_block]; exact hb)).trans (hcell j (by omega))
      have hxb := lb_lt hx j
      obtain ⟨x, hx0⟩ : ∃ x, lb xs j = x := ⟨_, rfl⟩
      rw [hx0] at hc0 hxb
      obtain ⟨y, hy⟩ : ∃ y, 4294967296 * rs + x = y := ⟨_, rfl⟩
      obtain ⟨q, hq⟩ : ∃ q, y / m = q := ⟨_, rfl⟩
      obtain ⟨r, hr⟩ : ∃ r, y % m = r := ⟨_, rfl⟩
      obtain ⟨hqb, hst⟩ := HO.out.step (by rw [HL.out]; omega) x y q r hx0 hxb hy hq hr
      have HST := Lib.hid hst
      have hrm := hst.rest
      have o1 : ((4294967296 * rs : Nat) : Int) + (x : Int) = (y : Int) := by omega
      have o2 : (rs : Int) * 4294967296 = ((4294967296 * rs : Nat) : Int) := by omega
      have o3 := u64_fit (show 4294967296 * rs < 18446744073709551616 by omega)
      have o4 := u64_mod (show 4294967296 * rs < 18446744073709551616 by omega)
      have o5 := u64_fit (show x < 18446744073709551616 by omega)
      have o6 := u64_mod (show x < 18446744073709551616 by omega)
      have o7 : (y : Int).tdiv (m : Int) = (q : Int) := by rw [Int.tdiv_eq_ediv_of_nonneg (Int.natCast_nonneg _), ← hq, Int.natCast_ediv]
      have o8 : (y : Int) / (m : Int) = (q : Int) := by rw [← hq, Int.natCast_ediv]
      have o9 := u64_fit (show y < 18446744073709551616 by omega)
      have o10 := u64_mod (show y < 18446744073709551616 by omega)
      have o11 := u64_fit (show q < 18446744073709551616 by omega)
      have o12 : (y : Int).tmod (m : Int) = (r : Int) := by rw [Int.tmod_eq_emod_of_nonneg (Int.natCast_nonneg _), ← hr, Int.natCast_emod]
      have o13 : (y : Int) % (m : Int) = (r : Int) := by rw [← hr, Int.natCast_emod]
      have o14 := u64_fit (show m < 18446744073709551616 by omega)
      have o15 := u64_mod (show m < 18446744073709551616 by omega)
      have o16 : IntKind.u32.wrap (q : Int) = (q : Int) := by rw [IntKind.wrap_u32]; omega
      have o17 : (q : Int) % 4294967296 = (q : Int) := by omega
      have o18 := u64_fit (show r < 18446744073709551616 by omega)
      have o19 : ¬ ((m : Int) = 0) := by omega
      have hj2 : j < L := by omega
      have hs := hown.set' j q
      have hfr := Own.frozen (c := L) (by rw [hol]; exact hown) j
      have hcl := Own.cell (c := L) (j := j) (by rw [hol]; exact hown) (by omega)
      have hE2 : Ext w (wr.setCell ⟨w.heap.size, j, none⟩ (.int .u32 (q : Nat))) := hE.setCell (by simp) _
      generalize 4294967296 * rs = y2 at *
      clear hx0 hxb hrb hq hr hy HO hcell hr0 hown hE hst
      go_wp2
      go_roundw
      case rel => exact ⟨j, r, _, _, by omega, rfl, rfl, rfl, hrm, HST, hs, hE2⟩
      case measure => simp [intOf]
end Go.Proofs.YtfkcdmbiihkiiaaGreatDoor
