/- The powers of a base that are kept. -/
import Derived.Test.YtigdflfhepelaaaGreatDoorPi
import Derived.Laws.IdiomStrings
import Derived.Ground.NamesProg
import Derived.Shelf.Lay
import Derived.Shelf.Strings.SlTrimAscii

namespace Go.Proofs.YtigdflfhepelaaaGreatDoor
open Go.RowKit
set_option linter.unusedVariables false
set_option maxHeartbeats 400000
attribute [local go_sem ↓] app_shut
attribute [local go_sem] run_append_tok

/-- The first K powers lie in the row that box Bk tells. -/
structure Kp (B b n : Nat) (w : World) (Bk K : Nat) : Prop where
  lo : B ≤ Bk
  fr : w.frozen? ⟨Bk, 0, none⟩ = false
  k1 : 1 ≤ K ∧ K ≤ 1000
  row : ∃ g cap es, w.cell? ⟨Bk, 0, none⟩ = some (.slice (some ⟨g, 0, none⟩) K cap) ∧ Rw B w g K cap es ∧ g ≠ Bk ∧ ∀ i, i < K → ∃ e, es[i]? = some e ∧ Un w e (kp b n i)
theorem Kp.lt {B b n : Nat} {w : World} {Bk K : Nat} (h : Kp B b n w Bk K) : Bk < w.heap.size := by
  obtain ⟨g, cap, es, h1, _⟩ := h.row
  exact cell_lt h1
theorem Kp.ext {B b n : Nat} {w w' : World} {Bk K : Nat} (h : Kp B b n w Bk K) (k : Ext w w') : Kp B b n w' Bk K := by
  have hlt := h.lt
  obtain ⟨g, cap, es, h1, h2, h3, h4⟩ := h.row
  have hb : w'.heap[Bk]? = w.heap[Bk]? := k.block Bk hlt
  refine ⟨h.lo, (World.frozen?_of_block (a := ⟨Bk, 0, none⟩) hb).trans h.fr, h.k1, g, cap, es, (World.cell?_of_block (a := ⟨Bk, 0, none⟩) hb).trans h1, h2.ext k, h3, fun i hi => ?_⟩
  obtain ⟨e, h5, h6⟩ := h4 i hi
  exact ⟨e, h5, h6.below k⟩
/-- A row of bytes holds no slice. -/
theorem By.noSl {T : TypeId} {w : World} {g : Nat} {o : List Nat} (h : By T w g o) {p : Addr} (hp : p.block = g) {v : Value} (hv : w.cell? p = some v) : ¬ Sl v := by
  unfold By at h
  unfold World.cell? at hv
  rw [hp, h] at hv
  simp only at hv
  split at hv
  · cases hv
  · have := Array.mem_of_getElem? hv
    have h2 := Array.mem_toList_iff.2 this
    simp only [Bv] at h2
    obtain ⟨z, _, rfl⟩ := List.mem_map.1 h2
    rintro ⟨a, l, c, e⟩
    cases e
/-- The powers lie in no row of bytes. -/
theorem Kp.butBy {B b n : Nat} {T : TypeId} {w w' : World} {Bk K q : Nat} {o : List Nat} (h : Kp B b n w Bk K) (hB : By T w q o) (k : But q w w') : Kp B b n w' Bk K := by
  have hlt := h.lt
  obtain ⟨g, cap, es, h1, h2, h3, h4⟩ := h.row
  have hq : Bk ≠ q := fun e => hB.noSl (p := ⟨Bk, 0, none⟩) e h1 ⟨_, _, _, rfl⟩
  have hb : w'.heap[Bk]? = w.heap[Bk]? := k.block Bk hlt (fun e => hq (by injection e))
  have hg : g ≠ q := by
    intro e
    have hk1 := h.k1
    have hc := h2.cell (j := 0) (by omega)
    obtain ⟨e0, h5, h6⟩ := h4 0 (by omega)
    rw [h5] at hc
    exact hB.noSl (p := ⟨g, 0, none⟩) e hc h6.sl
  refine ⟨h.lo, (World.frozen?_of_block (a := ⟨Bk, 0, none⟩) hb).trans h.fr, h.k1, g, cap, es, (World.cell?_of_block (a := ⟨Bk, 0, none⟩) hb).trans h1, h2.of (k.block g h2.lt (fun e => hg (by injection e))), h3, fun i hi => ?_⟩
  obtain ⟨e, h5, h6⟩ := h4 i hi
  exact ⟨e, h5, U.butBy h6 hB k⟩
theorem pow16 (w : World) (va : Value) (p : Nat) (hu : Un w va p) (hp : p < 4294967296) :
    Calls Tryz.prog 48 #[va, .int .i64 16] w fun e w' => ∃ u, e = .returned u ∧ Un w' u (p ^ 16) ∧ Ext w w' :=
  powN w va p 1 16 hu (by unfold LB; simpa using hp) (by omega) (by omega) (by omega) _ rfl
set_option maxRecDepth 100000 in
set_option maxHeartbeats 4000000 in
theorem kpowers_calls (w : World) (B b n p : Nat) (hS : Sc b n p) (hB : B ≤ w.heap.size) :
    Calls Tryz.prog 33 #[SV b n p] w fun e w' => (∃ Bk, e = .returned (.func (.func 49) #[] #[.pointer (some ⟨Bk, 0, none⟩)]) ∧ Kp B b n w' Bk 1 ∧ w.heap.size ≤ Bk) ∧ Ext w w' := by
  have hp2 := hS.p2
  have hpf := hS.fit
  have hk0 := kp_zero b n p hS.pw
  have hmf : ∀ (fn : Fn) (first cap : Array Value) (w : World), (Instr.makeFunc fn first cap).run Tryz.prog w = .ok (.func fn first cap) w := fun _ _ _ _ => rfl
  have hE0 := ((Ext.refl w).alloc (.cells #[.int .u32 (b : Nat), .int .i64 (n : Nat), .int .u32 (p : Nat)] 56)).alloc (.cells #[.int .u32 (p : Nat)] 46)
  have hu0 := un_one (w.alloc (.cells #[.int .u32 (b : Nat), .int .i64 (n : Nat), .int .u32 (p : Nat)] 56)) p (by omega) hpf
  have hsz : (w.alloc (.cells #[.int .u32 (b : Nat), .int .i64 (n : Nat), .int .u32 (p : Nat)] 56)).heap.size = w.heap.size + 1 := by simp
  rw [hsz] at hu0
  go_enter Tryz.func33, Tryz.ntmps33
  go_wp2_with (go_at_call 48; refine (pow16 _ _ p hu0 hpf).mono ?_; rintro e w3 ⟨u, rfl, hu3, hE3⟩; obtain ⟨A, l, c, rfl⟩ := U.sl hu3)
  go_ret
  have hE := hE0.below hE3
  have hs := hE.size
  have hR := (Rw.new B w3 (.slice A l c) ⟨_, _, _, rfl⟩ (Nat.le_trans hB hs))
  have hR2 := hR.ext ((Ext.refl _).alloc (.cells #[.slice (some ⟨w3.heap.size, 0, none⟩) 1 1] 74))
  have hE5 := ((Ext.refl w3).alloc (.cells #[.slice A l c] 22)).alloc (.cells #[.slice (some ⟨w3.heap.size, 0, none⟩) 1 1] 74)
  refine ⟨⟨w3.heap.size + 1, rfl, ⟨by omega, by go_simp, by omega, w3.heap.size, 1, _, by go_simp, hR2, by omega, fun i hi => ?_⟩, by omega⟩, hE.below hE5⟩
  obtain rfl : i = 0 := by omega
  exact ⟨_, rfl, by rw [hk0]; exact hu3.below hE5⟩
end Go.Proofs.YtigdflfhepelaaaGreatDoor
/- One power is told; what was told is kept. -/
namespace Go.Proofs.YtigdflfhepelaaaGreatDoor
open Go.RowKit
set_option linter.unusedVariables false
set_option maxHeartbeats 400000
attribute [local go_sem ↓] app_shut
attribute [local go_sem] run_append_tok

theorem kp_grow {B b n Bk m g cap g' cap' : Nat} {es : List Value} {w3 w' : World} {A : Option Addr} {l c : Nat} {T : TypeId} (lo : B ≤ Bk) (hk : m + 2 ≤ 1000) (hlt : Bk < w3.heap.size) (hB : B ≤ w3.heap.size)
    (hc : w3.cell? ⟨Bk, 0, none⟩ = some (.slice (some ⟨g, 0, none⟩) (m + 1) cap)) (hf : w3.frozen? ⟨Bk, 0, none⟩ = false)
    (hgb : (w3.alloc (.cells #[.slice A l c] T)).grownBy w' (some g)) (hne : g ≠ Bk) (hg' : g' = g ∨ g' = (w3.alloc (.cells #[.slice A l c] T)).heap.size)
    (hR : Rw B w' g' (m + 1 + 1) cap' (es ++ [.slice A l c])) (hlen : es.length = m + 1) (hes : ∀ i, i < m + 1 → ∃ e, es[i]? = some e ∧ Un w3 e (kp b n i)) (hu : Un w3 (.slice A l c) (kp b n m * kp b n m))
    (hKe : Kee B (w3.alloc (.cells #[.slice A l c] T)) w') :
    w'.cell? ⟨Bk, 0, none⟩ = some (.slice (some ⟨g, 0, none⟩) (m + 1) cap) ∧ w'.frozen? ⟨Bk, 0, none⟩ = false ∧ Bk < w'.heap.size ∧
      Kp B b n (w'.setCell ⟨Bk, 0, none⟩ (.slice (some ⟨g', 0, none⟩) (m + 1 + 1) cap')) Bk (m + 1 + 1) ∧ Kee B w3 (w'.setCell ⟨Bk, 0, none⟩ (.slice (some ⟨g', 0, none⟩) (m + 1 + 1) cap')) := by
  have hE := (Ext.refl w3).alloc (.cells #[.slice A l c] T)
  have hsz : w3.heap.size < (w3.alloc (.cells #[.slice A l c] T)).heap.size := by simp
  have hblk : w'.heap[Bk]? = w3.heap[Bk]? := (hgb.block Bk (by omega) (fun e => hne (by injection e with e; exact e.symm))).trans (hE.block Bk hlt)
  have hc' : w'.cell? ⟨Bk, 0, none⟩ = some (.slice (some ⟨g, 0, none⟩) (m + 1) cap) := (World.cell?_of_block (a := ⟨Bk, 0, none⟩) hblk).trans hc
  have hf' : w'.frozen? ⟨Bk, 0, none⟩ = false := (World.frozen?_of_block (a := ⟨Bk, 0, none⟩) hblk).trans hf
  have hk3 : Kee B w3 w' := (Kee.ofExt hB hE).trans hKe
  have hgn : g' ≠ Bk := by rcases hg' with e | e <;> omega
  have hks : Kee B w3 (w'.setCell ⟨Bk, 0, none⟩ (.slice (some ⟨g', 0, none⟩) (m + 1 + 1) cap')) := by
    refine ⟨hk3.below.trans ⟨rfl, rfl, rfl, by simp [World.setCell], fun k hkB => heap_setCell_other w' ⟨Bk, 0, none⟩ k _ (by show k ≠ Bk; omega)⟩, fun p v hv hns => ?_⟩
    have h1 := hk3.cell p v hv hns
    rw [World.cell?_setCell_other _ _ _ _ (fun e => ?_)]
    · exact h1
    · rw [← e, hc'] at h1
      injection h1 with h1
      exact hns ⟨_, _, _, h1.symm⟩
  refine ⟨hc', hf', cell_lt hc', ⟨lo, by rw [World.frozen?_setCell]; exact hf', by omega, g', cap', _, World.cell?_setCell_same _ _ _ hc', hR.of (heap_setCell_other _ ⟨Bk, 0, none⟩ _ _ hgn), hgn, fun i hi => ?_⟩, hks⟩
  rcases Nat.lt_or_ge i (m + 1) with h | h
  · obtain ⟨e, h1, h2⟩ := hes i h
    exact ⟨e, by rw [List.getElem?_append_left (by omega)]; exact h1, h2.kee hks⟩
  · obtain rfl : i = m + 1 := by omega
    refine ⟨_, by rw [List.getElem?_append_right (by omega), hlen, Nat.sub_self]; rfl, ?_⟩
    rw [kp_succ]
    exact hu.kee hks

set_option maxRecDepth 100000 in
set_option maxHeartbeats 4000000 in
theorem power_calls (w : World) (B b n Bk K i : Nat) (hK : Kp B b n w Bk K) (hB : B ≤ w.heap.size) (hi : i < 900) (hl : ∀ j, j < i → (limbs (kp b n j)).length ≤ 398) :
    Calls Tryz.prog 49 #[.int .i64 (i : Nat), .pointer (some ⟨Bk, 0, none⟩)] w fun e w' => (∃ u, e = .returned u ∧ Un w' u (kp b n i)) ∧ (∃ K', i < K' ∧ K ≤ K' ∧ Kp B b n w' Bk K') ∧ Kee B w w' ∧ (i < K → w' = w) := by
  have HL := Lib.hid hl
  have HB0 := Lib.hid hB
  have HK := Lib.hid hK
  have hKe0 := Kee.refl B w
  obtain ⟨g0, cap0, es0, hc0, _⟩ := hK.row
  clear hl hK
  go_enter Tryz.func49, Tryz.ntmps49
  go_wp2
  go_loopw [4] (fun t wr => ∃ Kr, K ≤ Kr ∧ Hid (Kp B b n wr Bk Kr) ∧ Kee B w wr ∧ Hid (i < K → wr = w)) (fun _ wr => match wr.cell? ⟨Bk, 0, none⟩ with | some (.slice _ l _) => i + 1 - l | _ => 0)
  case atStart => exact ⟨K, Nat.le_refl _, HK, hKe0, fun _ => rfl⟩
  case round =>
    clear HK hKe0 hc0
    obtain ⟨Kr, hKr, HK, hKe, him⟩ := hrel
    have hbs := HK.out.lt
    have hfr := HK.out.fr
    have hlo := HK.out.lo
    have hk1 := HK.out.k1
    obtain ⟨g, cap, es, hc, hR, hne, hes⟩ := HK.out.row
    by_cases hlt : Kr ≤ i
    · obtain ⟨m, hm⟩ : ∃ m, Kr = m + 1 := ⟨Kr - 1, by omega⟩
      subst hm
      obtain ⟨e, hem, hum⟩ := hes m (by omega)
      obtain ⟨A, l, c, rfl⟩ := U.sl hum
      have hcm := (hR.cell (j := m) (by omega)).trans hem
      have hu1 : Un wr.drew (.slice A l c) (kp b n m) := hum
      have hlm := Lib.hid (HL.out m (by omega))
      have hgl := hR.lt
      have hE1 : Ext wr wr.drew := (Ext.refl wr).drew
      have hBr : B ≤ wr.heap.size := Nat.le_trans HB0.out hKe.size
      have hRH := Lib.hid hR
      have hesH := Lib.hid hes
      have hKeH := Lib.hid hKe
      clear hum hem HK him hR hes hKe
      go_wp2
      go_region_with (go_at_call 47; refine (mulN _ _ _ _ _ _ hu1 hu1 hlm.out hlm.out rfl).mono ?_; rintro e w3 ⟨u, rfl, hu3, hE3⟩; obtain ⟨A3, l3, c3, rfl⟩ := U.sl hu3; have hE4 := hE1.below hE3; have hs3 := hE4.size; have hb3 : Bk < w3.heap.size := by { omega }; have hc3 := (hE4.cell (p := ⟨Bk, 0, none⟩) hbs).trans hc; have hf3 : w3.frozen? ⟨Bk, 0, none⟩ = false := (World.frozen?_of_block (a := ⟨Bk, 0, none⟩) (hE4.block Bk hbs)).trans hfr; have hR3 := (hRH.out.ext hE4).ext ((Ext.refl w3).alloc (.cells #[.slice A3 l3 c3] 22)); obtain ⟨g', cap', w', hrun, hR', hgb, hg', hKe'⟩ := hR3.push (.slice A3 l3 c3) ⟨_, _, _, rfl⟩ ⟨w3.heap.size, 0, none⟩ (by go_simp) (by omega) (by simp; omega); obtain ⟨t1, t2, t3⟩ := app_tok hrun; obtain ⟨hc', hf', hb', hK', hKe3⟩ := kp_grow hlo (by omega) hb3 (by omega) hc3 hf3 hgb hne hg' hR' hRH.out.len (fun j hj => (hesH.out j hj).imp fun e he => ⟨he.1, he.2.below hE4⟩) hu3 hKe'; have hK' := Lib.hid hK'; have hKe4 := Lib.hid (hKeH.out.trans ((Kee.ofExt hBr hE4).trans hKe3)); clear hrun hR' hgb hg' hKe' hKe3 hR3 hu3 hE3 hE4)
      all_goals (
        go_wp2
        go_roundw
        case rel => exact ⟨m + 1 + 1, by omega, hK', hKe4.out, fun h => absurd h (by omega)⟩
        case measure =>
          rw [hc, World.cell?_setCell_same _ _ _ hc']
          show i + 1 - (m + 1 + 1) < i + 1 - (m + 1)
          omega)
    · obtain ⟨e, hem, hum⟩ := hes i (by omega)
      obtain ⟨A, l, c, rfl⟩ := U.sl hum
      have hcm := (hR.cell (j := i) (by omega)).trans hem
      have HU := Lib.hid hum
      clear hum hem hR hes
      go_wp2
      go_ret
      exact ⟨⟨_, rfl, HU.out⟩, ⟨Kr, by omega, hKr, HK.out⟩, hKe, him.out⟩
end Go.Proofs.YtigdflfhepelaaaGreatDoor
/- Which power a number is below. -/
namespace Go.Proofs.YtigdflfhepelaaaGreatDoor
open Go.RowKit
set_option linter.unusedVariables false
set_option maxHeartbeats 400000

/-- The function value that tells a power. -/
abbrev Pfn (Bk : Nat) : Value := .func (.func 49) #[] #[.pointer (some ⟨Bk, 0, none⟩)]
theorem cmp_ge (a k : Nat) (h : k ≤ a) : ∃ c : Int, cmpI a k = c ∧ 0 ≤ c := by
  rcases Nat.lt_or_ge k a with h1 | h1
  · exact ⟨1, cmpI_gt (by omega), by decide⟩
  · obtain rfl : a = k := by omega
    exact ⟨0, cmpI_eq _, by decide⟩
theorem kp_len {b n i a : Nat} (h : kp b n i ≤ a) (hl : (limbs a).length ≤ 398) : (limbs (kp b n i)).length ≤ 398 := Nat.le_trans (len_mono h) hl

set_option maxRecDepth 100000 in
set_option maxHeartbeats 4000000 in
theorem above_calls (w : World) (B b n Bk K a I : Nat) (va : Value) (hu : Un w va a) (hK : Kp B b n w Bk K) (hB : B ≤ w.heap.size) (hI : I ≤ 800) (haI : a < kp b n I) (hl : ∀ j, j < I → kp b n j ≤ a) (hal : (limbs a).length ≤ 398) :
    Calls Tryz.prog 37 #[va, Pfn Bk] w fun e w' => e = .returned (.int .i64 (I : Nat)) ∧ (∃ K', I < K' ∧ K ≤ K' ∧ Kp B b n w' Bk K') ∧ Kee B w w' := by
  have HL := Lib.hid hl
  have HAL := Lib.hid hal
  have HAI := Lib.hid haI
  have HB0 := Lib.hid hB
  have HK := Lib.hid hK
  have hKe0 := Kee.refl B w
  have hlt0 := hK.lt
  obtain ⟨A, l, c, rfl⟩ := U.sl hu
  clear hl hK hal haI
  unfold Pfn
  go_enter Tryz.func37, Tryz.ntmps37
  go_wp2
  go_loopw [5] (fun t wr => ∃ i, i ≤ I ∧ t = .int .i64 (i : Nat) ∧ (∃ K', K ≤ K' ∧ (i = 0 ∨ i - 1 < K') ∧ Hid (Kp B b n wr Bk K')) ∧ Kee B w wr ∧ Un wr (.slice A l c) a) (fun t _ => I - (intOf t).toNat)
  case atStart => exact ⟨0, Nat.zero_le _, rfl, ⟨K, Nat.le_refl _, .inl rfl, HK⟩, hKe0, hu⟩
  case round =>
    clear HK hKe0 hu
    obtain ⟨i, hi, rfl, ⟨Kr, hKr, _, HK⟩, hKe, hu⟩ := hrel
    have hBr : B ≤ wr.heap.size := Nat.le_trans HB0.out hKe.size
    have hPC := Lib.hid (power_calls wr B b n Bk Kr i HK.out hBr (by omega) (fun j hj => kp_len (HL.out j (by omega)) HAL.out))
    by_cases hlt : i < I
    · obtain ⟨k, hk, hk0⟩ := cmp_ge a (kp b n i) (HL.out i hlt)
      have hKeH := Lib.hid hKe
      clear HK hKe
      go_wp2_with (first
        | (go_at_call 49; refine hPC.out.mono ?_; rintro e w3 ⟨⟨u, rfl, hu3⟩, ⟨K3, hi3, hK3, hKp3⟩, hKe3, _⟩; obtain ⟨A3, l3, c3, rfl⟩ := U.sl hu3; have hKp4 := Lib.hid hKp3; have hu4 := Un.kee hu hKe3; have hKe4 := Lib.hid (hKeH.out.trans hKe3); clear hKp3 hKe3)
        | (go_at_call 42; refine (cmp_B _ _ _ _ _ hu4 hu3 k hk).mono ?_; rintro e w5 ⟨rfl, hE5⟩))
      go_roundw
      case rel => exact ⟨i + 1, by omega, by go_num, ⟨K3, by omega, .inr (by omega), hKp4.out.ext hE5⟩, hKe4.out.ext (Nat.le_trans (by omega) (Nat.le_refl _)) hE5, hu4.below hE5⟩
      case measure => simp [intOf]; omega
    · obtain rfl : i = I := by omega
      have hk : cmpI (a : Int) (kp b n i : Nat) = -1 := cmpI_lt (by have := HAI.out; omega)
      have hKeH := Lib.hid hKe
      clear HK hKe
      go_wp2_with (first
        | (go_at_call 49; refine hPC.out.mono ?_; rintro e w3 ⟨⟨u, rfl, hu3⟩, ⟨K3, hi3, hK3, hKp3⟩, hKe3, _⟩; obtain ⟨A3, l3, c3, rfl⟩ := U.sl hu3; have hKp4 := Lib.hid hKp3; have hu4 := Un.kee hu hKe3; have hKe4 := Lib.hid (hKeH.out.trans hKe3); clear hKp3 hKe3)
        | (go_at_call 42; refine (cmp_B _ _ _ _ _ hu4 hu3 (-1) hk).mono ?_; rintro e w5 ⟨rfl, hE5⟩))
      go_ret
      exact ⟨rfl, ⟨K3, hi3, by omega, hKp4.out.ext hE5⟩, hKe4.out.ext HB0.out hE5⟩
end Go.Proofs.YtigdflfhepelaaaGreatDoor
/- A row of digits is split at a power. -/
namespace Go.Proofs.YtigdflfhepelaaaGreatDoor
open Go.RowKit
set_option linter.unusedVariables false
set_option maxHeartbeats 400000

/-- A row of bytes holds bytes. -/
theorem By.int {T : TypeId} {w : World} {g : Nat} {o : List Nat} (h : By T w g o) {p : Addr} (hp : p.block = g) {v : Value} (hv : w.cell? p = some v) : ∃ x : Nat, v = .int .u8 (x : Nat) := by
  unfold By at h
  unfold World.cell? at hv
  rw [hp, h] at hv
  simp only at hv
  split at hv
  · cases hv
  · have := Array.mem_of_getElem? hv
    have h2 := Array.mem_toList_iff.2 this
    simp only [Bv] at h2
    obtain ⟨z, _, rfl⟩ := List.mem_map.1 h2
    exact ⟨z, rfl⟩
/-- A cell that holds a function. -/
def Fb (w : World) (Q : Nat) (f : Value) : Prop := Q < w.heap.size ∧ w.cell? ⟨Q, 0, none⟩ = some f
theorem Fb.ext {w w' : World} {Q : Nat} {f : Value} (h : Fb w Q f) (k : Ext w w') : Fb w' Q f := ⟨Nat.lt_of_lt_of_le h.1 k.size, (k.cell (p := ⟨Q, 0, none⟩) h.1).trans h.2⟩
theorem Fb.but {w w' : World} {Q g : Nat} {f : Value} (h : Fb w Q f) (k : But g w w') (hne : Q ≠ g) : Fb w' Q f := ⟨Nat.lt_of_lt_of_le h.1 k.size, (k.cell (p := ⟨Q, 0, none⟩) h.1 hne).trans h.2⟩
theorem Fb.kee {B : Nat} {w w' : World} {Q : Nat} {f : Value} (h : Fb w Q f) (k : Kee B w w') (hf : ¬ Sl f) : Fb w' Q f := ⟨Nat.lt_of_lt_of_le h.1 k.size, k.cell _ _ h.2 hf⟩
/-- The function value that splits. -/
abbrev Sfn (S Pb Sb : Nat) : Value := .func (.func 34) #[] #[.pointer (some ⟨S, 0, none⟩), .pointer (some ⟨Pb, 0, none⟩), .pointer (some ⟨Sb, 0, none⟩)]
/-- What lies by while digits are written. -/
structure Lie (B b n p : Nat) (w : World) (S Pb Sb Bk K : Nat) : Prop where
  sc : SBx w S b n p
  pw : Fb w Pb (Pfn Bk)
  sp : Fb w Sb (Sfn S Pb Sb)
  kp : Kp B b n w Bk K
theorem Lie.ext {B b n p : Nat} {w w' : World} {S Pb Sb Bk K : Nat} (h : Lie B b n p w S Pb Sb Bk K) (k : Ext w w') : Lie B b n p w' S Pb Sb Bk K := ⟨h.sc.ext k, h.pw.ext k, h.sp.ext k, h.kp.ext k⟩
theorem Lie.ne {T : TypeId} {B b n p : Nat} {w : World} {S Pb Sb Bk K g : Nat} {o : List Nat} (h : Lie B b n p w S Pb Sb Bk K) (hB : By T w g o) : S ≠ g ∧ Pb ≠ g ∧ Sb ≠ g := by
  refine ⟨fun e => ?_, fun e => ?_, fun e => ?_⟩
  · obtain ⟨x, hx⟩ := hB.int (p := ⟨S, 0, none⟩) e h.sc.2.1
    cases hx
  · obtain ⟨x, hx⟩ := hB.int (p := ⟨Pb, 0, none⟩) e h.pw.2
    cases hx
  · obtain ⟨x, hx⟩ := hB.int (p := ⟨Sb, 0, none⟩) e h.sp.2
    cases hx
theorem Lie.butBy {T : TypeId} {B b n p : Nat} {w w' : World} {S Pb Sb Bk K g : Nat} {o : List Nat} (h : Lie B b n p w S Pb Sb Bk K) (hB : By T w g o) (k : But g w w') : Lie B b n p w' S Pb Sb Bk K := by
  obtain ⟨h1, h2, h3⟩ := h.ne hB
  exact ⟨h.sc.but k h1, h.pw.but k h2, h.sp.but k h3, h.kp.butBy hB k⟩
theorem fb_keep {w w' : World} {Q g : Nat} {f : Value} (h : Q < w.heap.size ∧ w.cell? ⟨Q, 0, none⟩ = some f) (k : But g w w') (hne : Q ≠ g) : Q < w'.heap.size ∧ w'.cell? ⟨Q, 0, none⟩ = some f := Fb.but h k hne

theorem split_row {b n g h len off cap : Nat} {pre mid post : List Nat} (hpre : pre.length = off) (hmid : mid.length = len) (hl2 : len = 2 * h) : (mid.take h).length = h ∧ (mid.drop h).length = h ∧ pre ++ (mid ++ post) = pre ++ (mid.take h ++ (mid.drop h ++ post)) := by
  refine ⟨by rw [List.length_take]; omega, by rw [List.length_drop]; omega, ?_⟩
  rw [← List.append_assoc (mid.take h), List.take_append_drop]

set_option maxRecDepth 100000 in
set_option maxHeartbeats 4000000 in
theorem split_calls (B b n p S Pb Sb Bk K g cap0 : Nat) (hS : Sc b n p) (hcm : cap0 ≤ 1000000000) : ∀ (i : Nat), i < K → i ≤ 800 → (∀ j, j < i → (limbs (kp b n j)).length ≤ 398) → ∀ (w : World) (off len cap : Nat) (pre mid post : List Nat), By 5 w g (pre ++ (mid ++ post)) → pre.length = off → mid.length = len → 16 * n * 2 ^ i = len → len ≤ cap → cap ≤ cap0 → off + len ≤ 1000000000 →
    ∀ (v : Value) (a : Nat), Un w v a → (limbs a).length ≤ 1000 → a < kp b n i → Lie B b n p w S Pb Sb Bk K → B ≤ w.heap.size →
    Calls Tryz.prog 34 #[.slice (some ⟨g, off, none⟩) len cap, v, .int .i64 (i : Nat), .pointer (some ⟨S, 0, none⟩), .pointer (some ⟨Pb, 0, none⟩), .pointer (some ⟨Sb, 0, none⟩)] w fun e w' => e = .returned (.tuple #[]) ∧ By 5 w' g (pre ++ ((bdig b a len).map digB ++ post)) ∧ But g w w' := by
  intro i
  induction i with
  | zero =>
    intro hK _ _ w off len cap pre mid post hBy hpre hmid hlen hcap hcap0 _ v a hu hla ha hLie hB
    obtain ⟨s0, s1, s2, s3⟩ := id hLie.sc
    have hlen2 : 16 * n = len := by rw [Nat.pow_zero, Nat.mul_one] at hlen; exact hlen
    have ha2 : a < b ^ len := by
      have h9 : kp b n 0 = b ^ (16 * n) := by unfold kp; rw [Nat.pow_zero, Nat.mul_one]
      rw [h9, hlen2] at ha
      exact ha
    obtain ⟨A, l, c, rfl⟩ := U.sl hu
    have hW := Lib.hid (write_calls w b n p hS g off len cap pre mid post hBy hpre hmid hcap (by omega) (.slice A l c) a hu (by omega) ha2)
    clear hu hBy hpre hmid hlen hlen2 ha ha2 hLie
    go_enter Tryz.func34, Tryz.ntmps34
    go_wp2_with (go_at_call 35; refine hW.out.mono ?_; rintro e w3 ⟨rfl, hB3, hbut⟩; have HB3 := Lib.hid hB3; clear hB3)
    exact bodyPost_ret (v := .tuple #[]) (results_none rfl _ _ _) rfl ⟨rfl, HB3.out, hbut⟩
  | succ i ih =>
    intro hK hi8 hlim w off len cap pre mid post hBy hpre hmid hlen hcap hcap0 hoff v a hu hla ha hLie hB
    obtain ⟨h, hh⟩ : ∃ h, 16 * n * 2 ^ i = h := ⟨_, rfl⟩
    have hl2 : len = 2 * h := by rw [← hlen, ← hh, Nat.pow_succ, ← Nat.mul_assoc, Nat.mul_comm]
    have hh1 : 1 ≤ h := by rw [← hh]; have := hS.n1; have := Nat.two_pow_pos i; exact Nat.mul_pos (by omega) this
    have hsp := kp_split b n i a hS.b2 ha
    rw [hlen, hh] at hsp
    obtain ⟨q, hq⟩ : ∃ q, a / kp b n i = q := ⟨_, rfl⟩
    obtain ⟨r, hr⟩ : ∃ r, a % kp b n i = r := ⟨_, rfl⟩
    have hkp0 : kp b n i ≠ 0 := by have := Nat.pow_pos (n := 16 * n * 2 ^ i) (show 0 < b by have := hS.b2; omega); unfold kp; omega
    have hrk : r < kp b n i := by rw [← hr]; exact Nat.mod_lt _ (by omega)
    rw [hq, hr] at hsp
    have hql : (limbs q).length ≤ 1000 := Nat.le_trans (len_mono (by rw [← hq]; exact Nat.div_le_self _ _)) hla
    have hrl : (limbs r).length ≤ 1000 := Nat.le_trans (len_mono (by rw [← hr]; exact Nat.mod_le _ _)) hla
    obtain ⟨hm1, hm2, hm3⟩ := split_row (b := b) (n := n) (g := g) (off := off) (cap := cap) (post := post) hpre hmid hl2
    rw [hm3] at hBy
    have hih := fun w off cap pre mid post h1 h2 h3 h4 h5 h6 v a h7 h8 h9 h10 h11 => ih (by omega) (by omega) (fun j hj => hlim j (by omega)) w off h cap pre mid post h1 h2 h3 hh h4 h5 h6 v a h7 h8 h9 h10 h11
    have HIH := Lib.hid hih
    have hpc := power_calls w B b n Bk K i hLie.kp hB (by omega) (fun j hj => hlim j (by omega))
    have hdm := fun u hu2 => divmod_D w v u a (kp b n i) q r hu hu2 hla (Nat.le_trans (hlim i (by omega)) (by omega)) hkp0 hq hr
    have HEND : Hid (pre ++ (bdig b q h).map digB ++ ((bdig b r h).map digB ++ post) = pre ++ ((bdig b a len).map digB ++ post)) := by
      show _ = _
      rw [hsp.2, List.map_append, List.append_assoc, List.append_assoc]
    have hqk := Lib.hid hsp.1
    have hrk2 := Lib.hid hrk
    have hpl : Hid ((pre ++ (bdig b q h).map digB).length = off + h) := by show _ = _; rw [List.length_append, List.length_map, bdig_len, hpre]
    have hM1 := Lib.hid hm1
    have hM2 := Lib.hid hm2
    have hPR := Lib.hid hpre
    obtain ⟨A, l, c, rfl⟩ := U.sl hu
    have HPC := Lib.hid hpc
    have HDM := Lib.hid hdm
    obtain ⟨z, hz⟩ : ∃ z : Int, ((i + 1 : Nat) : Int) = z := ⟨_, rfl⟩
    have o1 : z - 1 = (i : Int) := by omega
    have o2 : ¬ (z = 0) := by omega
    rw [hz]
    have o3 : (len : Int).tdiv 2 = (h : Int) := by rw [Int.tdiv_eq_ediv_of_nonneg (Int.natCast_nonneg _)]; omega
    have o4 : (len : Int) / 2 = (h : Int) := by omega
    have o5 : (h : Int) ≤ (len : Int) := by omega
    have o6 : (h : Int) ≤ (cap : Int) := by omega
    have o7 : ¬ (cap = h) := by omega
    have o8 : len - h = h := by omega
    have o9 : (0 : Int) ≤ (h : Int) := by omega
    have o10 : IntKind.i64.wrap (h : Int) = (h : Int) := by rw [IntKind.wrap_i64]; omega
    have o11 : IntKind.i64.wrap (len : Int) = (len : Int) := by rw [IntKind.wrap_i64]; omega
    have o12 : IntKind.i64.wrap (i : Int) = (i : Int) := by rw [IntKind.wrap_i64]; omega
    have o13 : (h : Int) ≤ (h : Int) := Int.le_refl _
    have hcc : h ≤ cap ∧ cap ≤ cap0 ∧ h ≤ cap - h ∧ cap - h ≤ cap0 ∧ off + h ≤ 1000000000 ∧ off + h + h ≤ 1000000000 := by omega
    have HCC := Lib.hid hcc
    obtain ⟨b0, b1⟩ := id hLie.pw
    have hpwc := b1
    unfold Pfn at hpwc
    have HLie := Lib.hid hLie
    have HBy := Lib.hid hBy
    clear hz hih hpc hdm hq hr hsp hrk hm1 hm2 hm3 hpre hmid hlen hl2 hh hcc hBy hla ha hkp0 hlim b0 b1 hLie hS hu
    go_enter Tryz.func34, Tryz.ntmps34
    go_wp2_with (first
      | (go_at_call 49; refine HPC.out.mono ?_; rintro e w3 ⟨⟨u, rfl, hu3⟩, _, _, hw3⟩; obtain rfl := hw3 (by omega); obtain ⟨Au, lu, cu, rfl⟩ := U.sl hu3)
      | (go_at_call 36; refine (HDM.out _ hu3).mono ?_; rintro e w5 ⟨⟨x, y, rfl, hx, hy⟩, hE5⟩; obtain ⟨Ax, lx, cx, rfl⟩ := U.sl hx; obtain ⟨Ay, ly, cy, rfl⟩ := U.sl hy))
    have hB5 : By 5 w5.drew g _ := HBy.out.ext hE5.drew
    have hL5 : Lie B b n p w5.drew S Pb Sb Bk K := HLie.out.ext hE5.drew
    have hx5 : Un w5.drew (.slice Ax lx cx) q := hx
    have hBs : B ≤ w5.drew.heap.size := Nat.le_trans hB hE5.size
    have hS0 : Sb < w5.drew.heap.size ∧ w5.drew.cell? ⟨Sb, 0, none⟩ = some (.func (.func 34) #[] #[.pointer (some ⟨S, 0, none⟩), .pointer (some ⟨Pb, 0, none⟩), .pointer (some ⟨Sb, 0, none⟩)]) := hL5.sp
    have hSbg := (hL5.ne hB5).2.2
    have HC1 := Lib.hid (HIH.out w5.drew off cap pre _ _ hB5 hPR.out hM1.out HCC.out.1 HCC.out.2.1 HCC.out.2.2.2.2.1 _ q hx5 hql hqk.out hL5 hBs)
    have hy5 : Hid (Un w5.drew (.slice Ay ly cy) r) := hy
    have HB5 := Lib.hid hB5
    have HL5 := Lib.hid hL5
    have hbut5 := (But.refl g _).ext hE5.drew
    clear hB5 hL5 hx5 hx hy hu3 hw3 hpwc
    go_region_held3 (fun X => Sb < X.heap.size ∧ X.cell? ⟨Sb, 0, none⟩ = some (.func (.func 34) #[] #[.pointer (some ⟨S, 0, none⟩), .pointer (some ⟨Pb, 0, none⟩), .pointer (some ⟨Sb, 0, none⟩)]))
      (first
        | exact hS0
        | assumption
        | exact fb_keep (by assumption) (by assumption) (by assumption))
      (first
        | (go_at_call 34; ((with_reducible refine HC1.out.mono ?_); rintro e6 w6 ⟨rfl, hB6, hbut6⟩)))
    have hB6d : By 5 w6.drew g (pre ++ (bdig b q h).map digB ++ (mid.drop h ++ post)) := by rw [List.append_assoc]; exact hB6
    have hbd : But g w6 w6.drew := (But.refl g w6).drew
    have hL6 : Lie B b n p w6.drew S Pb Sb Bk K := (HL5.out.butBy HB5.out hbut6).ext (Ext.refl w6).drew
    have hy60 : Un w6 (.slice Ay ly cy) r := U.butBy hy5.out HB5.out hbut6
    have hy6 : Un w6.drew (.slice Ay ly cy) r := hy60
    have hB7 : B ≤ w6.drew.heap.size := Nat.le_trans hBs hbut6.size
    have hS1 : Sb < w6.drew.heap.size ∧ w6.drew.cell? ⟨Sb, 0, none⟩ = some (.func (.func 34) #[] #[.pointer (some ⟨S, 0, none⟩), .pointer (some ⟨Pb, 0, none⟩), .pointer (some ⟨Sb, 0, none⟩)]) := hL6.sp
    have HC2 := Lib.hid (HIH.out w6.drew (off + h) (cap - h) _ _ _ hB6d hpl.out hM2.out HCC.out.2.2.1 HCC.out.2.2.2.1 HCC.out.2.2.2.2.2 _ r hy6 hrl hrk2.out hL6 hB7)
    have hbut7 := Lib.hid ((hbut5.trans hbut6).trans hbd)
    clear HC1 hS0 hB6 hB6d hbd hL6 hy6 hy60 hbut6 hbut5 HIH
    go_wp2_with (fail)
    go_region_held3 (fun X => Sb < X.heap.size ∧ X.cell? ⟨Sb, 0, none⟩ = some (.func (.func 34) #[] #[.pointer (some ⟨S, 0, none⟩), .pointer (some ⟨Pb, 0, none⟩), .pointer (some ⟨Sb, 0, none⟩)]))
      (first
        | exact hS1
        | assumption
        | exact fb_keep (by assumption) (by assumption) (by assumption))
      (first
        | (go_at_call 34; ((with_reducible refine HC2.out.mono ?_); rintro e8 w8 ⟨rfl, hB8, hbut8⟩)))
    rw [HEND.out] at hB8
    have HB8 := Lib.hid hB8
    clear hB8
    (try go_wp2)
    exact bodyPost_end (results_none rfl _ _ _) rfl ⟨rfl, HB8.out, hbut7.out.trans hbut8⟩
end Go.Proofs.YtigdflfhepelaaaGreatDoor
/- Digits are read chunk by chunk: plain mathematics. -/
namespace Go.Proofs.YtigdflfhepelaaaGreatDoor
set_option linter.unusedVariables false
set_option maxHeartbeats 400000

theorem chunk_mod (L n k : Nat) (hn : 1 ≤ n) (hL : 1 ≤ L) (hk : (L - 1) % n + 1 = k) : k ≤ n ∧ k ≤ L ∧ (L - k) % n = 0 := by
  have h1 := Nat.mod_lt (L - 1) (show n > 0 by omega)
  have h2 := Nat.mod_le (L - 1) n
  have h3 := Nat.div_add_mod (L - 1) n
  have h4 : L - k = n * ((L - 1) / n) := by omega
  exact ⟨by omega, by omega, by rw [h4]; exact Nat.mul_mod_right _ _⟩
theorem chunk_full (L n k : Nat) (hn : 1 ≤ n) (hL : 1 ≤ L) (h0 : L % n = 0) (hk : (L - 1) % n + 1 = k) : k = n := by
  obtain ⟨h1, h2, h3⟩ := chunk_mod L n k hn hL hk
  have a1 := Nat.div_add_mod L n
  have a2 := Nat.div_add_mod (L - k) n
  rw [h0] at a1
  rw [h3] at a2
  have e : n * (L / n) = n * ((L - k) / n) + k := by omega
  have e2 : n * (L / n) - n * ((L - k) / n) = k := by omega
  rw [← Nat.mul_sub] at e2
  have hk0 : 1 ≤ k := by omega
  rcases Nat.eq_zero_or_pos (L / n - (L - k) / n) with h | h
  · rw [h, Nat.mul_zero] at e2; omega
  · have := Nat.mul_le_mul_left n h
    rw [Nat.mul_one] at this
    omega
/-- The first i digits are read. -/
structure RdI (b n : Nat) (ds : List Nat) (i a : Nat) : Prop where
  le : i ≤ ds.length
  val : a = bval b (ds.take i)
  at_ : i = 0 ∨ (ds.length - i) % n = 0
theorem RdI.start (b n : Nat) (ds : List Nat) : RdI b n ds 0 0 := ⟨Nat.zero_le _, rfl, .inl rfl⟩
theorem RdI.step {b n : Nat} {ds : List Nat} {i a : Nat} (h : RdI b n ds i a) (hn : 1 ≤ n) (hi : i < ds.length) (k : Nat) (hk : (ds.length - i - 1) % n + 1 = k) :
    k ≤ n ∧ i + k ≤ ds.length ∧ RdI b n ds (i + k) (a * b ^ n + bval b ((ds.drop i).take k)) := by
  obtain ⟨h1, h2, h3⟩ := chunk_mod (ds.length - i) n k hn (by omega) hk
  refine ⟨h1, by omega, by omega, ?_, .inr (by rw [show ds.length - (i + k) = ds.length - i - k by omega]; exact h3)⟩
  have e : ds.take (i + k) = ds.take i ++ (ds.drop i).take k := List.take_add
  rw [e, bval_append, h.val]
  have hl : ((ds.drop i).take k).length = k := by rw [List.length_take, List.length_drop]; omega
  rw [hl]
  rcases h.at_ with h0 | h0
  · subst h0
    rw [List.take_zero, bval_nil, Nat.zero_mul, Nat.zero_mul]
  · rw [chunk_full (ds.length - i) n k hn (by omega) h0 hk]
theorem RdI.done {b n : Nat} {ds : List Nat} {a : Nat} (h : RdI b n ds ds.length a) : a = bval b ds := by
  rw [h.val, List.take_length]
/-- One digit of a chunk more. -/
theorem chunk_push (b : Nat) (cs : List Nat) (j : Nat) (h : j < cs.length) : bval b (cs.take (j + 1)) = bval b (cs.take j) * b + lb cs j := by
  have e : cs.take (j + 1) = cs.take j ++ [cs[j]] := (List.take_append_getElem h).symm
  rw [e, bval_push]
  unfold lb
  simp [h]
theorem chunk_fits (b n p : Nat) (hS : Sc b n p) (cs : List Nat) (hl : cs.length ≤ n) (h : ∀ d ∈ cs, d < b) : bval b cs < 4294967296 := by
  have h1 := bval_lt b cs h
  have h2 : b ^ cs.length ≤ b ^ n := Nat.pow_le_pow_right (by have := hS.b2; omega) hl
  have h3 := hS.fit
  rw [hS.pw] at h3
  omega
/-- A number's digits cut in two, at a whole power. -/
theorem bval_cut (b : Nat) (ds : List Nat) (c : Nat) (h : c ≤ ds.length) : bval b ds = bval b (ds.take c) * b ^ (ds.length - c) + bval b (ds.drop c) := by
  have := bval_append b (ds.take c) (ds.drop c)
  rw [List.take_append_drop, List.length_drop] at this
  exact this
end Go.Proofs.YtigdflfhepelaaaGreatDoor
/- The document's own small functions: Base, Digit, Byte, Of. -/
namespace Go.Proofs.YtigdflfhepelaaaGreatDoor
open Go.RowKit
set_option linter.unusedVariables false
set_option maxHeartbeats 400000

theorem rbase_calls (w : World) (b : Nat) (h2 : 2 ≤ b) (h36 : b ≤ 36) :
    Calls Tryz.prog 40 #[.int .i64 (b : Nat)] w fun e w' => e = .returned (.bool true) ∧ w' = w := by
  have h1 : (2 : Int) ≤ (b : Int) := by omega
  have h3 : (b : Int) ≤ 36 := by omega
  go_enter Tryz.func40, Tryz.ntmps40
  go_wp2
  go_ret
  exact ⟨by simp, rfl⟩
theorem rof_calls (w : World) (n : Nat) (h : n < 256) :
    Calls Tryz.prog 21 #[.int .u8 (n : Nat)] w fun e w' => e = .returned (.int .i64 ((2 + n % 35 : Nat) : Int)) ∧ w' = w := by
  go_enter Tryz.func21, Tryz.ntmps21
  go_wp2
  go_ret
  exact ⟨by go_num, rfl⟩
set_option maxRecDepth 100000 in
theorem rbyte_calls (w : World) (d : Nat) (h : d < 36) :
    Calls Tryz.prog 28 #[.int .i64 (d : Nat)] w fun e w' => e = .returned (.int .u8 (digB d : Nat)) ∧ w' = w := by
  have hw : digB d = if d < 10 then 48 + d else 87 + d := rfl
  generalize digB d = r at *
  by_cases hd : d < 10
  · obtain rfl : r = 48 + d := by rw [hw, if_pos hd]
    clear hw
    go_enter Tryz.func28, Tryz.ntmps28
    go_wp2
    go_ret
    exact ⟨by go_num, rfl⟩
  · obtain rfl : r = 87 + d := by rw [hw, if_neg hd]
    clear hw
    go_enter Tryz.func28, Tryz.ntmps28
    go_wp2
    go_ret
    exact ⟨by go_num, rfl⟩
set_option maxRecDepth 100000 in
theorem rdigit_calls (w : World) (c : Nat) (h : c < 256) :
    Calls Tryz.prog 24 #[.int .u8 (c : Nat)] w fun e w' => e = .returned (.int .i64 (worB c : Nat)) ∧ w' = w := by
  have hc : c ≤ 47 ∨ (48 ≤ c ∧ c ≤ 57) ∨ (58 ≤ c ∧ c ≤ 96) ∨ (97 ≤ c ∧ c ≤ 122) ∨ 123 ≤ c := by omega
  have hw : worB c = if 48 ≤ c ∧ c ≤ 57 then c - 48 else if 97 ≤ c ∧ c ≤ 122 then c - 97 + 10 else 99 := rfl
  generalize worB c = r at *
  rcases hc with hc | hc | hc | hc | hc
  · obtain rfl : r = 99 := by rw [hw, if_neg (by omega), if_neg (by omega)]
    clear hw
    go_enter Tryz.func24, Tryz.ntmps24
    go_wp2
    go_ret
    exact ⟨rfl, rfl⟩
  · obtain rfl : r = c - 48 := by rw [hw, if_pos (by omega)]
    obtain ⟨d, rfl⟩ : ∃ d, c = d + 48 := ⟨c - 48, by omega⟩
    clear hw
    go_enter Tryz.func24, Tryz.ntmps24
    go_wp2
    go_ret
    exact ⟨by go_num, rfl⟩
  · obtain rfl : r = 99 := by rw [hw, if_neg (by omega), if_neg (by omega)]
    clear hw
    go_enter Tryz.func24, Tryz.ntmps24
    go_wp2
    go_ret
    exact ⟨rfl, rfl⟩
  · obtain rfl : r = c - 97 + 10 := by rw [hw, if_neg (by omega), if_pos (by omega)]
    obtain ⟨d, rfl⟩ : ∃ d, c = d + 97 := ⟨c - 97, by omega⟩
    clear hw
    go_enter Tryz.func24, Tryz.ntmps24
    go_wp2
    go_ret
    exact ⟨by go_num, rfl⟩
  · obtain rfl : r = 99 := by rw [hw, if_neg (by omega), if_neg (by omega)]
    clear hw
    go_enter Tryz.func24, Tryz.ntmps24
    go_wp2
    go_ret
    exact ⟨rfl, rfl⟩
end Go.Proofs.YtigdflfhepelaaaGreatDoor
/- The document's Worth: digits modulo a prime. -/
namespace Go.Proofs.YtigdflfhepelaaaGreatDoor
open Go.RowKit
set_option linter.unusedVariables false
set_option maxHeartbeats 400000

theorem strD_at (ds : List Nat) (h : ∀ d ∈ ds, d < 36) (i : Nat) (hi : i < (strD ds).size) : ((strD ds)[i]'hi).toNat = digB (lb ds i) := by
  have hi2 : i < ds.length := by rwa [strD_size] at hi
  have e : (strD ds)[i]'hi = UInt8.ofNat (digB (ds[i]'hi2)) := by
    show ((byteL ds).toArray)[i]'_ = _
    simp [byteL]
  rw [e, digB_nat (h _ (List.getElem_mem hi2))]
  unfold lb
  simp [hi2]
theorem lb_mem (ds : List Nat) (i : Nat) (h : i < ds.length) : lb ds i ∈ ds := by
  unfold lb
  simp [h]
theorem worth_step (b had : Nat) (ds : List Nat) (i rs s : Nat) (hi : i < ds.length) (h : rs = (had * b ^ i + bval b (ds.take i)) % 4294967291) (hs : (rs * b + lb ds i) % 4294967291 = s) :
    s = (had * b ^ (i + 1) + bval b (ds.take (i + 1))) % 4294967291 := by
  rw [chunk_push b ds i hi, ← hs, h, Nat.pow_succ]
  have e : had * (b ^ i * b) + (bval b (ds.take i) * b + lb ds i) = (had * b ^ i + bval b (ds.take i)) * b + lb ds i := by
    rw [Nat.add_mul, Nat.mul_assoc, Nat.add_assoc]
  rw [e]
  generalize had * b ^ i + bval b (ds.take i) = X
  rw [Nat.add_mod, Nat.mul_mod, Nat.mod_mod, ← Nat.mul_mod, ← Nat.add_mod]

set_option maxRecDepth 100000 in
set_option maxHeartbeats 4000000 in
theorem rworth_calls (w : World) (b had : Nat) (hb : b ≤ 36) (hh : had < 4294967291) (ds : List Nat) (h : ∀ d ∈ ds, d < 36) (hl : ds.length ≤ 1000000000) :
    Calls Tryz.prog 25 #[.string (strD ds), .int .i64 (b : Nat), .int .u64 (had : Nat)] w fun e w' => e = .returned (.int .u64 ((had * b ^ ds.length + bval b ds) % 4294967291 : Nat)) ∧ w' = w := by
  have hsz := strD_size ds
  have hat := strD_at ds h
  generalize strD ds = S at *
  obtain ⟨L, hL⟩ : ∃ L, ds.length = L := ⟨_, rfl⟩
  have HL := Lib.hid hL
  have HAT := Lib.hid hat
  have HS0 : Hid (had = (had * b ^ 0 + bval b (ds.take 0)) % 4294967291) := by rw [Nat.pow_zero, Nat.mul_one, List.take_zero, bval_nil, Nat.add_zero]; exact (Nat.mod_eq_of_lt hh).symm
  have HDN : Hid (∀ s, s = (had * b ^ L + bval b (ds.take L)) % 4294967291 → s = (had * b ^ ds.length + bval b ds) % 4294967291) := fun s e => by rw [e, ← hL, List.take_length]
  rw [hL] at hl hsz
  clear hL hat
  go_enter Tryz.func25, Tryz.ntmps25
  go_wp2
  go_loopw [7, 2] (fun t s wr => ∃ (i rs : Nat), i ≤ L ∧ t = .int .i64 (i : Nat) ∧ s = .int .u64 (rs : Nat) ∧ rs < 4294967296 ∧ Hid (rs = (had * b ^ i + bval b (ds.take i)) % 4294967291) ∧ wr = w) (fun t _ _ => L - (intOf t).toNat)
  case atStart => exact ⟨0, had, Nat.zero_le _, rfl, rfl, by omega, HS0, rfl⟩
  case round =>
    clear HS0
    obtain ⟨i, rs, hi, rfl, rfl, hrb, HO, rfl⟩ := hrel
    by_cases hlt : i < L
    · have hi1 : (i : Int) < (L : Int) := by omega
      obtain ⟨d, hd⟩ : ∃ d, lb ds i = d := ⟨_, rfl⟩
      have hd36 : d < 36 := by rw [← hd]; exact h _ (lb_mem ds i (by rw [HL.out]; exact hlt))
      have hat := HAT.out i (by rw [hsz]; exact hlt)
      rw [hd] at hat
      obtain ⟨y, hy⟩ : ∃ y, rs * b = y := ⟨_, rfl⟩
      have hyb : y ≤ 4294967296 * 36 := by rw [← hy]; exact Nat.mul_le_mul (by omega) hb
      obtain ⟨s, hs⟩ : ∃ s, (y + d) % 4294967291 = s := ⟨_, rfl⟩
      have HST := Lib.hid (worth_step b had ds i rs s (by rw [HL.out]; exact hlt) HO.out (by rw [hy, hd]; exact hs))
      have o1 : (rs : Int) * (b : Int) = (y : Int) := by rw [← hy]; exact (Int.natCast_mul rs b).symm
      have o2 := u64_fit (show y < 18446744073709551616 by omega)
      have o3 := u64_mod (show b < 18446744073709551616 by omega)
      have o4 := u64_fit (show b < 18446744073709551616 by omega)
      have o5 := u64_fit (show d < 18446744073709551616 by omega)
      have o6 := u64_mod (show d < 18446744073709551616 by omega)
      obtain ⟨x, hx⟩ : ∃ x, y + d = x := ⟨_, rfl⟩
      have o7 : (y : Int) + (d : Int) = (x : Int) := by omega
      have o8 := u64_fit (show x < 18446744073709551616 by omega)
      have o9 : (x : Int).tmod 4294967291 = (s : Int) := by rw [Int.tmod_eq_emod_of_nonneg (Int.natCast_nonneg _), ← hs, hx, Int.natCast_emod]; rfl
      have hsb : s < 4294967296 := by omega
      have o10 := u64_fit (show s < 18446744073709551616 by omega)
      have hwd := worB_digB hd36
      clear hd hy hyb hs hx HO hrb
      go_wp2_with (go_at_call 24; refine (rdigit_calls _ (digB d) (by have := digB_lt hd36; omega)).mono ?_; rintro e w3 ⟨rfl, rfl⟩)
      go_roundw
      case rel => exact ⟨i + 1, s, by omega, by go_num, rfl, hsb, HST, by trivial⟩
      case measure => simp [intOf]; omega
    · obtain rfl : i = L := by omega
      have HE := Lib.hid (HDN.out rs HO.out)
      clear HO HDN
      go_wp2
      go_ret
      exact ⟨by rw [HE.out]; rfl, rfl⟩
end Go.Proofs.YtigdflfhepelaaaGreatDoor
/- What a byte is worth; a base's scale. -/
namespace Go.Proofs.YtigdflfhepelaaaGreatDoor
open Go.RowKit
set_option linter.unusedVariables false
set_option maxHeartbeats 400000

set_option maxRecDepth 100000 in
theorem worth_calls (w : World) (c : Nat) (h : c < 256) :
    Calls Tryz.prog 43 #[.int .u8 (c : Nat)] w fun e w' => e = .returned (.int .u32 (worB c : Nat)) ∧ w' = w := by
  have hc : c ≤ 47 ∨ (48 ≤ c ∧ c ≤ 57) ∨ (58 ≤ c ∧ c ≤ 96) ∨ (97 ≤ c ∧ c ≤ 122) ∨ 123 ≤ c := by omega
  have hw : worB c = if 48 ≤ c ∧ c ≤ 57 then c - 48 else if 97 ≤ c ∧ c ≤ 122 then c - 97 + 10 else 99 := rfl
  generalize worB c = r at *
  rcases hc with hc | hc | hc | hc | hc
  · obtain rfl : r = 99 := by rw [hw, if_neg (by omega), if_neg (by omega)]
    clear hw
    go_enter Tryz.func43, Tryz.ntmps43
    go_wp2
    go_ret
    exact ⟨rfl, rfl⟩
  · obtain rfl : r = c - 48 := by rw [hw, if_pos (by omega)]
    obtain ⟨d, rfl⟩ : ∃ d, c = d + 48 := ⟨c - 48, by omega⟩
    clear hw
    go_enter Tryz.func43, Tryz.ntmps43
    go_wp2
    go_ret
    exact ⟨by go_num, rfl⟩
  · obtain rfl : r = 99 := by rw [hw, if_neg (by omega), if_neg (by omega)]
    clear hw
    go_enter Tryz.func43, Tryz.ntmps43
    go_wp2
    go_ret
    exact ⟨rfl, rfl⟩
  · obtain rfl : r = c - 97 + 10 := by rw [hw, if_neg (by omega), if_pos (by omega)]
    obtain ⟨d, rfl⟩ : ∃ d, c = d + 97 := ⟨c - 97, by omega⟩
    clear hw
    go_enter Tryz.func43, Tryz.ntmps43
    go_wp2
    go_ret
    exact ⟨by go_num, rfl⟩
  · obtain rfl : r = 99 := by rw [hw, if_neg (by omega), if_neg (by omega)]
    clear hw
    go_enter Tryz.func43, Tryz.ntmps43
    go_wp2
    go_ret
    exact ⟨rfl, rfl⟩
end Go.Proofs.YtigdflfhepelaaaGreatDoor
/- A small piece of digits is read. -/
namespace Go.Proofs.YtigdflfhepelaaaGreatDoor
open Go.RowKit
set_option linter.unusedVariables false
set_option maxHeartbeats 400000

theorem strD_take (es : List Nat) (k : Nat) : (strD es).extract 0 k = strD (es.take k) := by
  show (ByteArray.mk (byteL es).toArray).extract 0 k = ByteArray.mk (byteL (es.take k)).toArray
  rw [ByteArray.extract_mk, List.drop_zero, Nat.sub_zero]
  simp [byteL, List.map_take]
theorem strD_drop (es : List Nat) (k : Nat) : (strD es).extract k (strD es).size = strD (es.drop k) := by
  rw [strD_size]
  show (ByteArray.mk (byteL es).toArray).extract k es.length = ByteArray.mk (byteL (es.drop k)).toArray
  rw [ByteArray.extract_mk, List.take_of_length_le (by rw [List.length_drop, byteL_len]; exact Nat.le_refl _)]
  simp [byteL, List.map_drop]
/-- A text as a row of bytes. -/
theorem bytes_of (wr : World) (cs : List Nat) (hd : ∀ d ∈ cs, d < 36) : ∃ cap w1, (convert 9 49 (.string (strD cs))).run Tryz.prog wr = .ok (.slice (some ⟨wr.heap.size, 0, none⟩) cs.length cap) w1 ∧ Ext wr w1 ∧ wr.heap.size < w1.heap.size ∧
    ∀ j, j < cs.length → w1.cell? ⟨wr.heap.size, j, none⟩ = some (.int .u8 (digB (lb cs j) : Nat)) := by
  have h := run_bytes_of_string (P := Tryz.prog) wr 9 49 5 (strD cs) Tryz.underlying9 Tryz.underlying49 Tryz.underlying5
  generalize grownCap wr (strD cs).size 0 5 = cap at h
  have hE : Ext wr (wr.drew.alloc (.cells (bytesRow (strD cs) cap) 5 ((bytesRow (strD cs) cap).size, (bytesRow (strD cs) cap).size + 1))) := ((Ext.refl wr).drew).alloc _
  refine ⟨cap, _, by rw [h, strD_size], hE, by simp, fun j hj => ?_⟩
  have hj2 : j < (strD cs).data.size := by
    show j < ((byteL cs).toArray).size
    rw [List.size_toArray, byteL_len]; exact hj
  have h1 := World.cell?_alloc_mark wr.drew (bytesRow (strD cs) cap) 5 ((bytesRow (strD cs) cap).size, (bytesRow (strD cs) cap).size + 1) j
  rw [bytesRow_at (strD cs) cap j hj2] at h1
  have h2 : ((strD cs).data[j]'hj2).toNat = digB (lb cs j) := strD_at cs hd j hj2
  rw [h2] at h1
  exact h1
theorem rd_len {b n p i a : Nat} {ds : List Nat} (hS : Sc b n p) (hd : ∀ d ∈ ds, d < b) (hl : ds.length ≤ 16 * n) (h : RdI b n ds i a) : (limbs a).length ≤ 398 := by
  have h1 := bval_lt b (ds.take i) (fun d hd2 => hd d (List.mem_of_mem_take hd2))
  have hle := h.le
  have h2 : (ds.take i).length ≤ 16 * n := by rw [List.length_take]; omega
  have h3 : b ^ (ds.take i).length ≤ b ^ (16 * n) := Nat.pow_le_pow_right (by have := hS.b2; omega) h2
  have h4 : b ^ (16 * n) = p ^ 16 := by rw [hS.pw, ← Nat.pow_mul, Nat.mul_comm]
  have h5 : p ^ 16 ≤ LB ^ 16 := Nat.pow_le_pow_left (by have := hS.fit; unfold LB; omega) 16
  refine Nat.le_trans (len_of (k := 16) ?_) (by omega)
  rw [h.val]
  omega
theorem sl_one_len {p : Nat} (h : p < 4294967296) : (limbs p).length ≤ 398 := Nat.le_trans (len_of (k := 1) (by unfold LB; simpa using h)) (by omega)

set_option maxRecDepth 100000 in
set_option maxHeartbeats 4000000 in
theorem readS_calls (w : World) (b n p : Nat) (hS : Sc b n p) (ds : List Nat) (hd : ∀ d ∈ ds, d < b) (hl : ds.length ≤ 16 * n) :
    Calls Tryz.prog 45 #[SV b n p, .string (strD ds)] w fun e w' => ∃ u, e = .returned u ∧ Un w' u (bval b ds) ∧ Ext w w' := by
  have hn31 := hS.n32
  have hn1 := hS.n1
  have hb36 := hS.b36
  have hp2 := hS.p2
  have hpf := hS.fit
  have hd36 : Hid (∀ d ∈ ds, d < 36) := fun d h => by have := hd d h; omega
  have HDB := Lib.hid hd
  have hE0 := (Ext.refl w).alloc (.cells #[.int .u32 (b : Nat), .int .i64 (n : Nat), .int .u32 (p : Nat)] 56)
  have hSx := SBx.new w b n p
  obtain ⟨L, hL⟩ : ∃ L, ds.length = L := ⟨_, rfl⟩
  have HL := Lib.hid hL
  have HR0 := Lib.hid (RdI.start b n ds)
  have hsz0 := strD_size ds
  have hS0 : Hid (strD ds = strD (ds.drop 0)) := by rw [List.drop_zero]; rfl
  have hLn := Lib.hid (fun i a (h : RdI b n ds i a) => rd_len hS hd hl h)
  rw [hL] at hsz0 hl
  generalize strD ds = S0 at *
  clear hd hL
  have hnil := Un_nil (w.alloc (.cells #[.int .u32 (b : Nat), .int .i64 (n : Nat), .int .u32 (p : Nat)] 56))
  go_enter Tryz.func45, Tryz.ntmps45
  go_wp2
  generalize (w.alloc (.cells #[.int .u32 (b : Nat), .int .i64 (n : Nat), .int .u32 (p : Nat)] 56)) = w1 at *
  go_loopw [1, 5] (fun t s wr => ∃ (i a x : Nat) (S : ByteArray), t = .string S ∧ Hid (S = strD (ds.drop i)) ∧ S.size = x ∧ Hid (i + x = L) ∧ Un wr s a ∧ Hid (RdI b n ds i a) ∧ SBx wr w.heap.size b n p ∧ Ext w wr) (fun t _ _ => match t with | .string S => S.size | _ => 0)
  case atStart => exact ⟨0, 0, L, S0, rfl, hS0, hsz0, Nat.zero_add _, hnil, HR0, hSx, hE0⟩
  case round =>
    clear HR0 hnil hSx hE0 hsz0 hS0
    obtain ⟨i, a, x, S, rfl, HS, hsz, hix, hua, HR, hSx, hE⟩ := hrel
    obtain ⟨A, l, c, rfl⟩ := U.sl hua
    by_cases hx0 : x = 0
    · subst hx0
      have HU : Hid (Un wr (.slice A l c) (bval b ds)) := by
        have hiL : i = ds.length := by have := hix.out; have := HL.out; omega
        have hR := HR.out
        subst hiL
        rw [← hR.done]
        exact hua
      clear HR hua hix HS
      go_wp2
      go_ret
      exact ⟨_, rfl, HU.out, hE⟩
    · obtain ⟨s0, s1, s2, s3⟩ := id hSx
      obtain ⟨k, hk⟩ : ∃ k, (x - 1) % n + 1 = k := ⟨_, rfl⟩
      have hiL : i < ds.length := by have := hix.out; have := HL.out; omega
      have hstep := HR.out.step hn1 hiL k (by rw [show ds.length - i - 1 = x - 1 by have := hix.out; have := HL.out; omega]; exact hk)
      obtain ⟨cs, hcs⟩ : ∃ cs, (ds.drop i).take k = cs := ⟨_, rfl⟩
      rw [hcs, ← hS.pw] at hstep
      obtain ⟨hkn, hik, hR2⟩ := hstep
      have hx5 : x ≤ 496 := by have := hix.out; have := HL.out; omega
      have hkx : k ≤ x := by have := hix.out; have := HL.out; omega
      have hcl : cs.length = k := by rw [← hcs, List.length_take, List.length_drop]; have := hix.out; have := HL.out; omega
      have hcb : ∀ d ∈ cs, d < b := fun d h => HDB.out d (List.mem_of_mem_drop (List.mem_of_mem_take (by rw [hcs]; exact h)))
      have hT : S.extract 0 k = strD cs := by rw [HS.out, strD_take, hcs]
      have hSd : S.extract k x = strD (ds.drop (i + k)) := by rw [← hsz, HS.out, strD_drop, List.drop_drop]
      obtain ⟨S2, hS2⟩ : ∃ S2, S.extract k x = S2 := ⟨_, rfl⟩
      rw [hS2] at hSd
      have HSd := Lib.hid hSd
      have hs2z : Hid (S2.size = x - k) := by
        show S2.size = x - k
        rw [hSd, strD_size, List.length_drop]
        have := hix.out
        have := HL.out
        omega
      have hk1 : 1 ≤ k := by omega
      obtain ⟨cap, wa, hcv, hEa, hga, hcell⟩ := bytes_of wr cs (fun d h => by have := hcb d h; omega)
      rw [hcl] at hcv
      have o1 : (x : Int) - 1 = ((x - 1 : Nat) : Int) := by omega
      obtain ⟨y, hy⟩ : ∃ y, x - 1 = y := ⟨_, rfl⟩
      rw [hy] at hk o1
      obtain ⟨r, hr⟩ : ∃ r, y % n = r := ⟨_, rfl⟩
      rw [hr] at hk
      have o2 : (y : Int).tmod (n : Int) = (r : Int) := by rw [Int.tmod_eq_emod_of_nonneg (Int.natCast_nonneg _), ← hr, Int.natCast_emod]
      have o3 : (y : Int) % (n : Int) = (r : Int) := by rw [← hr, Int.natCast_emod]
      have o4 : (r : Int) + 1 = (k : Int) := by omega
      have o5 : ¬ ((n : Int) = 0) := by omega
      have o6 : (0 : Int) < (x : Int) := by omega
      have o7 : y ≤ 496 := by omega
      have o8 : r ≤ 31 := by have := Nat.mod_lt y (show n > 0 by omega); omega
      have HR2 := Lib.hid hR2
      have HC := Lib.hid hcell
      have HCL := Lib.hid hcl
      have HCB := Lib.hid hcb
      have hua1 : Un wa (.slice A l c) a := hua.below hEa
      have hSx1 := hSx.ext hEa
      have hE1 := hE.below hEa
      have hla := Lib.hid (hLn.out i a HR.out)
      have HS2 := Lib.hid hS2
      have hsz2 := Lib.hid hsz
      clear hS2
      have hst : Hid (strD cs = S.extract 0 k) := hT.symm
      have hxk := Lib.hid hkx
      generalize strD cs = T at *
      have hst2 := Lib.hid (strD_take cs k)
      clear hy hr hk hR2 hcell hcl hcb hcs hua hE hEa HR HS hSd hx0 hst2 hst
      go_wp2
      clear hcv hT hsz o1 o2 o3 o4 o5 o6 o7 o8
      generalize wr.heap.size = G at *
      have hch0 : Hid (0 = bval b (cs.take 0)) := by rw [List.take_zero]; rfl
      go_loopw [25, 7] (fun t s w4 => ∃ (j ch : Nat), j ≤ k ∧ t = .int .i64 (j : Nat) ∧ s = .int .u64 (ch : Nat) ∧ ch < 4294967296 ∧ Hid (ch = bval b (cs.take j)) ∧ Ext wa w4) (fun t _ _ => k - (intOf t).toNat)
      case atStart => exact ⟨0, 0, Nat.zero_le _, rfl, rfl, by omega, hch0, Ext.refl _⟩
      case round =>
        clear hch0
        obtain ⟨j, ch, hj, rfl, rfl, hchb, HO, hE4⟩ := hrel
        by_cases hlt : j < k
        · have hj1 : (j : Int) < (k : Int) := by omega
          have hj0 : (0 : Int) ≤ (j : Int) := by omega
          have hc4 := (hE4.cell (p := ⟨G, j, none⟩) hga).trans (HC.out j (by have := HCL.out; omega))
          have hpush := chunk_push b cs j (by rw [HCL.out]; exact hlt)
          have hdb : lb cs j < b := HCB.out _ (lb_mem cs j (by rw [HCL.out]; exact hlt))
          obtain ⟨d, hd⟩ : ∃ d, lb cs j = d := ⟨_, rfl⟩
          rw [hd] at hc4 hpush hdb
          have hd36 : d < 36 := by omega
          have hwd := worB_digB hd36
          have hdl := digB_lt hd36
          obtain ⟨y, hy⟩ : ∃ y, ch * b = y := ⟨_, rfl⟩
          rw [← HO.out, hy] at hpush
          have hnew : y + d < 4294967296 := by
            rw [← hpush]
            exact chunk_fits b n p hS (cs.take (j + 1)) (by rw [List.length_take, HCL.out]; omega) (fun d h => HCB.out d (List.mem_of_mem_take h))
          obtain ⟨z, hz⟩ : ∃ z, y + d = z := ⟨_, rfl⟩
          rw [hz] at hpush hnew
          have o1 : (ch : Int) * (b : Int) = (y : Int) := by rw [← hy]; exact (Int.natCast_mul ch b).symm
          have o2 := u64_fit (show y < 18446744073709551616 by omega)
          have o3 := u64_mod (show b < 18446744073709551616 by omega)
          have o4 := u64_fit (show b < 18446744073709551616 by omega)
          have o5 := u64_fit (show d < 18446744073709551616 by omega)
          have o6 := u64_mod (show d < 18446744073709551616 by omega)
          have o7 : (y : Int) + (d : Int) = (z : Int) := by omega
          have o8 := u64_fit (show z < 18446744073709551616 by omega)
          have o9 := u64_mod (show y < 18446744073709551616 by omega)
          have o10 := u64_mod (show z < 18446744073709551616 by omega)
          obtain ⟨q0, q1, q2, q3⟩ := hSx1.ext hE4
          have HST : Hid (z = bval b (cs.take (j + 1))) := hpush.symm
          generalize digB d = D at *
          clear hd hy hz hpush hchb HO s0 s1 s2 s3
          go_wp2_with (fail)
          have hD256 : D < 256 := by omega
          have hwc := fun W => worth_calls W D hD256
          rw [hwd] at hwc
          go_quiet (first | (go_at_call 43; refine Calls.quiet_of_same (hwc _)))
          go_wp2
          go_roundw
          case rel => exact ⟨j + 1, z, by omega, by go_num, rfl, hnew, HST, hE4.below (ext_drewN _ _)⟩
          case measure => simp [intOf]; omega
        · obtain rfl : j = k := by omega
          have hchv : ch = bval b cs := by rw [HO.out, ← HCL.out, List.take_length]
          have hHR : Hid (RdI b n ds (i + j) (a * p + ch)) := by rw [hchv]; exact HR2.out
          have hla2 := Lib.hid (hLn.out _ _ hHR.out)
          have hua4 : Un wr (.slice A l c) a := hua1.below hE4
          have hp5 := un_one wr p (by omega) hpf
          have hua5 := Un.alloc hua4 (.cells #[.int .u32 (p : Nat)] 46)
          obtain ⟨q0, q1, q2, q3⟩ := hSx1.ext hE4
          have hSx4 := hSx1.ext hE4
          have hE5 := (hE1.below hE4).alloc (.cells #[.int .u32 (p : Nat)] 46)
          have hSx5 := hSx4.ext ((Ext.refl wr).alloc (.cells #[.int .u32 (p : Nat)] 46))
          have hlap : Hid ((limbs (a * p)).length ≤ 1000000000) := Nat.le_trans (len_mono (Nat.le_add_right _ ch)) (Nat.le_trans hla2.out (by omega))
          have hlch : Hid ((limbs ch).length ≤ 1000000000) := Nat.le_trans (sl_one_len hchb) (by omega)
          have hs2e := HS2.out
          have hxk2 := hxk.out
          obtain ⟨x2, hx2⟩ : ∃ x2, x - j = x2 := ⟨_, rfl⟩
          have hix2 : Hid (i + j + x2 = L) := by have := hix.out; show i + j + x2 = L; omega
          rw [hx2] at hs2z
          have hx2l : Hid (x2 < x) := by show x2 < x; omega
          have hlp := Lib.hid (sl_one_len hpf)
          clear HO hchv hua4 hSx4 hx2 hSx hE1 hE4 hix hlt s0 s1 s2 s3 hs2e hxk2
          have hs2e := HS2.out
          have hxk2 := hxk.out
          have hsz := hsz2.out
          go_wp2_with (first
            | (go_at_call 47; refine (mulN _ _ _ a p _ hua5 hp5 hla.out hlp.out rfl).mono ?_; rintro e w6 ⟨u6, rfl, hu6, hE6⟩; obtain ⟨A6, l6, c6, rfl⟩ := U.sl hu6)
            | (go_at_call 60; refine (of_B _ (ch : Int) (by omega) (by omega) ch (by omega)).mono ?_; rintro e w7 ⟨u7, rfl, hu7, hE7⟩; obtain ⟨A7, l7, c7, rfl⟩ := U.sl hu7; have hu67 := Un.below hu6 hE7)
            | (go_at_call 46; refine (add_B _ _ _ (a * p) ch hu67 hu7 hlap.out hlch.out _ rfl).mono ?_; rintro e w8 ⟨u8, rfl, hu8, hE8⟩; obtain ⟨A8, l8, c8, rfl⟩ := U.sl hu8))
          go_roundw
          case rel => exact ⟨i + j, a * p + ch, x2, S2, rfl, HSd, hs2z.out, hix2, hu8, hHR, ((hSx5.ext hE6).ext hE7).ext hE8, ((hE5.below hE6).below hE7).below hE8⟩
          case measure =>
            show S2.size < S.size
            rw [hsz, hs2z.out]
            exact hx2l.out
end Go.Proofs.YtigdflfhepelaaaGreatDoor
/- Digits are read: two halves are joined. -/
namespace Go.Proofs.YtigdflfhepelaaaGreatDoor
open Go.RowKit
set_option linter.unusedVariables false
set_option maxHeartbeats 400000

/-- The function value that joins. -/
abbrev Jfn (S Jb Pb : Nat) : Value := .func (.func 44) #[] #[.pointer (some ⟨S, 0, none⟩), .pointer (some ⟨Jb, 0, none⟩), .pointer (some ⟨Pb, 0, none⟩)]
/-- The two boxes of functions. -/
def Jx (S Jb Pb Bk : Nat) (w : World) : Prop := (Jb < w.heap.size ∧ w.cell? ⟨Jb, 0, none⟩ = some (Jfn S Jb Pb)) ∧ (Pb < w.heap.size ∧ w.cell? ⟨Pb, 0, none⟩ = some (Pfn Bk))
theorem Jx.kee {B S Jb Pb Bk : Nat} {w w' : World} (h : Jx S Jb Pb Bk w) (k : Kee B w w') : Jx S Jb Pb Bk w' :=
  ⟨Fb.kee (f := Jfn S Jb Pb) h.1 k (by rintro ⟨_, _, _, e⟩; cases e), Fb.kee (f := Pfn Bk) h.2 k (by rintro ⟨_, _, _, e⟩; cases e)⟩
theorem Jx.ext {S Jb Pb Bk : Nat} {w w' : World} (h : Jx S Jb Pb Bk w) (k : Ext w w') : Jx S Jb Pb Bk w' := ⟨Fb.ext h.1 k, Fb.ext h.2 k⟩
theorem bv_len {b x k M : Nat} (hb : 2 ≤ b) (hx : x < b ^ k) (hk : k ≤ M) (hl : (limbs (b ^ M)).length ≤ 398) : (limbs x).length ≤ 398 := by
  have h1 : b ^ k ≤ b ^ M := Nat.pow_le_pow_right (by omega) hk
  exact Nat.le_trans (len_mono (by omega)) hl
theorem kp_len2 {b n i M : Nat} (hb : 2 ≤ b) (h : 16 * n * 2 ^ i ≤ M) (hl : (limbs (b ^ M)).length ≤ 398) : (limbs (kp b n i)).length ≤ 398 := by
  unfold kp
  exact Nat.le_trans (len_mono (Nat.pow_le_pow_right (by omega) h)) hl
theorem low_i {n i x : Nat} (hn : 1 ≤ n) (h : 16 * n * 2 ^ i = x) (hx : x < 20000) : i ≤ 11 := by
  rcases Nat.lt_or_ge i 12 with h1 | h1
  · omega
  · exfalso
    have h2 : 2 ^ 12 ≤ 2 ^ i := Nat.pow_le_pow_right (by decide) h1
    have h3 : 16 * 1 * 2 ^ 12 ≤ 16 * n * 2 ^ i := Nat.mul_le_mul (Nat.mul_le_mul_left 16 hn) h2
    have h4 : (2 : Nat) ^ 12 = 4096 := rfl
    omega
theorem low_le {n i j : Nat} (h : j ≤ i) : 16 * n * 2 ^ j ≤ 16 * n * 2 ^ i := Nat.mul_le_mul_left _ (Nat.pow_le_pow_right (by decide) h)

theorem keepJ {B S Jb Pb Bk : Nat} {w w' : World} (h : (Jb < w.heap.size ∧ w.cell? ⟨Jb, 0, none⟩ = some (.func (.func 44) #[] #[.pointer (some ⟨S, 0, none⟩), .pointer (some ⟨Jb, 0, none⟩), .pointer (some ⟨Pb, 0, none⟩)])) ∧ (Pb < w.heap.size ∧ w.cell? ⟨Pb, 0, none⟩ = some (.func (.func 49) #[] #[.pointer (some ⟨Bk, 0, none⟩)]))) (k : Kee B w w') :
    (Jb < w'.heap.size ∧ w'.cell? ⟨Jb, 0, none⟩ = some (.func (.func 44) #[] #[.pointer (some ⟨S, 0, none⟩), .pointer (some ⟨Jb, 0, none⟩), .pointer (some ⟨Pb, 0, none⟩)])) ∧ (Pb < w'.heap.size ∧ w'.cell? ⟨Pb, 0, none⟩ = some (.func (.func 49) #[] #[.pointer (some ⟨Bk, 0, none⟩)])) := Jx.kee (S := S) (Bk := Bk) h k
theorem keepJE {S Jb Pb Bk : Nat} {w w' : World} (h : (Jb < w.heap.size ∧ w.cell? ⟨Jb, 0, none⟩ = some (.func (.func 44) #[] #[.pointer (some ⟨S, 0, none⟩), .pointer (some ⟨Jb, 0, none⟩), .pointer (some ⟨Pb, 0, none⟩)])) ∧ (Pb < w.heap.size ∧ w.cell? ⟨Pb, 0, none⟩ = some (.func (.func 49) #[] #[.pointer (some ⟨Bk, 0, none⟩)]))) (k : Ext w w') :
    (Jb < w'.heap.size ∧ w'.cell? ⟨Jb, 0, none⟩ = some (.func (.func 44) #[] #[.pointer (some ⟨S, 0, none⟩), .pointer (some ⟨Jb, 0, none⟩), .pointer (some ⟨Pb, 0, none⟩)])) ∧ (Pb < w'.heap.size ∧ w'.cell? ⟨Pb, 0, none⟩ = some (.func (.func 49) #[] #[.pointer (some ⟨Bk, 0, none⟩)])) := Jx.ext (S := S) (Bk := Bk) h k

set_option maxRecDepth 100000 in
set_option maxHeartbeats 4000000 in
theorem rjoin_calls (B b n p S Jb Pb Bk M : Nat) (hS : Sc b n p) (hM : (limbs (b ^ M)).length ≤ 398) (hM2 : M ≤ 19000) : ∀ (L : Nat), L ≤ M → ∀ (w : World) (ds : List Nat) (K : Nat), ds.length = L → (∀ d ∈ ds, d < b) → SBx w S b n p → Jx S Jb Pb Bk w → Kp B b n w Bk K → B ≤ w.heap.size →
    Calls Tryz.prog 44 #[.string (strD ds), .pointer (some ⟨S, 0, none⟩), .pointer (some ⟨Jb, 0, none⟩), .pointer (some ⟨Pb, 0, none⟩)] w fun e w' => (∃ u, e = .returned u ∧ Un w' u (bval b ds)) ∧ (∃ K', Kp B b n w' Bk K') ∧ Kee B w w' := by
  intro L
  induction L using Nat.strongRecOn with
  | _ L ih =>
  intro hLM w ds K hL hd hSx hJ hKp hB
  have hb2 := hS.b2
  have hb36 := hS.b36
  have hn1 := hS.n1
  have hn31 := hS.n32
  have hsz := strD_size ds
  rw [hL] at hsz
  obtain ⟨s0, s1, s2, s3⟩ := id hSx
  by_cases hsm : L ≤ 16 * n
  · have hR := Lib.hid (fun W => readS_calls W b n p hS ds hd (by omega))
    generalize strD ds = T at *
    have hcmp : ((L : Int) ≤ 16 * (n : Int)) := by omega
    have HK := Lib.hid hKp
    clear ih hd hL hKp
    go_enter Tryz.func44, Tryz.ntmps44
    go_wp2_with (first
      | (go_at_call 38; refine (piece_calls _ b n p hS).mono ?_; rintro e w3 ⟨rfl, hE3⟩; obtain ⟨q0, q1, q2, q3⟩ := hSx.ext hE3)
      | (go_at_call 45; refine (hR.out _).mono ?_; rintro e w4 ⟨u, rfl, hu4, hE4⟩; obtain ⟨A4, l4, c4, rfl⟩ := U.sl hu4))
    go_ret
    exact ⟨⟨_, rfl, hu4⟩, ⟨K, (HK.out.ext hE3).ext hE4⟩, Kee.ofExt hB (hE3.below hE4)⟩
  · have HJ0 := Lib.hid hJ
    have HK := Lib.hid hKp
    have HD := Lib.hid hd
    have hL2 : L ≤ 19000 := by omega
    have HIH := Lib.hid ih
    have hcmp : ¬ ((L : Int) ≤ 16 * (n : Int)) := by omega
    have HL := Lib.hid hL
    have htk := fun k => strD_take ds k
    have hdr := fun k => strD_drop ds k
    rw [strD_size, hL] at hdr
    have HTK := Lib.hid htk
    have HDR := Lib.hid hdr
    generalize hTT : strD ds = T at *
    have HTT := Lib.hid hTT
    clear ih hd hKp hJ hL htk hdr hTT
    go_enter Tryz.func44, Tryz.ntmps44
    go_wp2_with (first
      | (go_at_call 38; refine (piece_calls _ b n p hS).mono ?_; rintro e w3 ⟨rfl, hE3⟩; first | (have hfirst : Ext w w3 := hE3; obtain ⟨q0, q1, q2, q3⟩ := hSx.ext hfirst) | (have hE0 := hfirst.below hE3; clear hE3 hfirst q0 q1 q2 q3)))
    have hi00 : 16 * n * 2 ^ 0 = 16 * n := by rw [Nat.pow_zero, Nat.mul_one]
    have hi0 := Lib.hid hi00
    have hlow0 : 16 * n < L := by omega
    clear hi00 hcmp s0 s1 s2 s3 hn31
    go_loopw [6, 7] (fun t s wr => ∃ i lw : Nat, t = .int .i64 (i : Nat) ∧ s = .int .i64 (lw : Nat) ∧ Hid (16 * n * 2 ^ i = lw) ∧ lw < L ∧ wr = w3) (fun _ s _ => L - (intOf s).toNat)
    case atStart => exact ⟨0, 16 * n, rfl, by go_num, hi0, hlow0, rfl⟩
    case round =>
      clear hi0 hlow0
      obtain ⟨i, lw, rfl, rfl, hi, hlw, rfl⟩ := hrel
      have hi11 := low_i hn1 hi.out (by omega)
      have hlw1 : 1 ≤ lw := by rw [← hi.out]; exact Nat.mul_pos (by omega) (Nat.two_pow_pos i)
      by_cases hgo : 2 * lw < L
      · have hi2 : Hid (16 * n * 2 ^ (i + 1) = 2 * lw) := by show _ = _; rw [Nat.pow_succ, ← Nat.mul_assoc, hi.out, Nat.mul_comm]
        have o1 : (2 : Int) * (lw : Int) < (L : Int) := by omega
        have o3 : IntKind.i64.wrap ((2 : Int) * (lw : Int)) = (2 : Int) * (lw : Int) := by rw [IntKind.wrap_i64]; omega
        clear hi
        go_wp2
        go_roundw
        case rel => exact ⟨i + 1, 2 * lw, by go_num, by go_num, hi2, hgo, by trivial⟩
        case measure => simp [intOf]; omega
      · obtain ⟨cut, hcut⟩ : ∃ cut, L - lw = cut := ⟨_, rfl⟩
        have hcut2 : L = cut + lw := by omega
        have hdl := HL.out
        obtain ⟨T1, hT1⟩ : ∃ T1, strD (ds.take cut) = T1 := ⟨_, rfl⟩
        obtain ⟨T2, hT2⟩ : ∃ T2, strD (ds.drop cut) = T2 := ⟨_, rfl⟩
        have ht1 : T.extract 0 cut = T1 := (HTK.out cut).trans hT1
        have ht2 : T.extract cut L = T2 := (HDR.out cut).trans hT2
        have hEd : Ext w wr.drew := hE0.drew
        have hJ0 : Jx S Jb Pb Bk wr.drew := HJ0.out.ext hEd
        have hSx0 := hSx.ext hEd
        have hKp0 := HK.out.ext hEd
        have hB0 : B ≤ wr.drew.heap.size := Nat.le_trans hB hEd.size
        have hl1n : (ds.take cut).length = cut := by rw [List.length_take]; omega
        have hl2n : (ds.drop cut).length = lw := by rw [List.length_drop]; omega
        have hd1 : ∀ d ∈ ds.take cut, d < b := fun d h => HD.out d (List.mem_of_mem_take h)
        have hd2 : Hid (∀ d ∈ ds.drop cut, d < b) := fun d h => HD.out d (List.mem_of_mem_drop h)
        have hv1 := bval_lt b _ hd1
        have hv2 := bval_lt b _ hd2.out
        rw [hl1n] at hv1
        rw [hl2n] at hv2
        have hl1 := Lib.hid (bv_len hb2 hv1 (show cut ≤ M by omega) hM)
        have hl4 := Lib.hid (Nat.le_trans (bv_len hb2 hv2 (show lw ≤ M by omega) hM) (show 398 ≤ 1000000000 by omega))
        have hl2 := Lib.hid (kp_len2 (n := n) (i := i) hb2 (show 16 * n * 2 ^ i ≤ M by rw [hi.out]; omega) hM)
        have hlim : Hid (∀ j, j < i → (limbs (kp b n j)).length ≤ 398) := fun j hj => kp_len2 hb2 (Nat.le_trans (low_le (Nat.le_of_lt hj)) (show 16 * n * 2 ^ i ≤ M by rw [hi.out]; omega)) hM
        have hval : bval b (ds.take cut) * kp b n i + bval b (ds.drop cut) = bval b ds := by
          have h := bval_cut b ds cut (by omega)
          rw [show ds.length - cut = lw by omega] at h
          unfold kp
          rw [hi.out]
          exact h.symm
        have hvlen : (limbs (bval b ds)).length ≤ 398 := bv_len hb2 (bval_lt b ds HD.out) (show ds.length ≤ M by omega) hM
        have hl3 : Hid ((limbs (bval b (ds.take cut) * kp b n i)).length ≤ 1000000000) := Nat.le_trans (len_mono (show bval b (ds.take cut) * kp b n i ≤ bval b ds by omega)) (Nat.le_trans hvlen (by omega))
        have HVAL := Lib.hid hval
        have HC1 := Lib.hid (HIH.out cut (by omega) (by omega) wr.drew (ds.take cut) K hl1n hd1 hSx0 hJ0 hKp0 hB0)
        have HC2' := Lib.hid (fun W K' h1 h2 h3 h4 => HIH.out lw hlw (by omega) W (ds.drop cut) K' hl2n hd2.out h1 h2 h3 h4)
        rw [hT1] at HC1
        rw [hT2] at HC2'
        generalize bval b (ds.take cut) = va at *
        generalize bval b (ds.drop cut) = vb at *
        have hS0 : (Jb < wr.drew.heap.size ∧ wr.drew.cell? ⟨Jb, 0, none⟩ = some (.func (.func 44) #[] #[.pointer (some ⟨S, 0, none⟩), .pointer (some ⟨Jb, 0, none⟩), .pointer (some ⟨Pb, 0, none⟩)])) ∧ (Pb < wr.drew.heap.size ∧ wr.drew.cell? ⟨Pb, 0, none⟩ = some (.func (.func 49) #[] #[.pointer (some ⟨Bk, 0, none⟩)])) := hJ0
        have o1 : ¬ ((2 : Int) * (lw : Int) < (L : Int)) := by omega
        have o3 : IntKind.i64.wrap ((2 : Int) * (lw : Int)) = (2 : Int) * (lw : Int) := by rw [IntKind.wrap_i64]; omega
        have o4 : (L : Int) - (lw : Int) = (cut : Int) := by omega
        have o5 : IntKind.i64.wrap (cut : Int) = (cut : Int) := by rw [IntKind.wrap_i64]; omega
        have o6 : (0 : Int) ≤ (cut : Int) := by omega
        have o7 : (cut : Int) ≤ (L : Int) := by omega
        have hK0 := Lib.hid (Kee.ofExt hB hEd)
        have hSx0H := Lib.hid hSx0
        have hi9 : i < 900 := by omega
        clear hcut hcut2 hdl hT1 hT2 hEd hJ0 hSx0 hKp0 hl1n hl2n hd1 hd2 hv1 hv2 hval hvlen hi hgo HIH HTK HDR hE0
        go_wp2_with (fail)
        go_region_held3 (fun X => (Jb < X.heap.size ∧ X.cell? ⟨Jb, 0, none⟩ = some (.func (.func 44) #[] #[.pointer (some ⟨S, 0, none⟩), .pointer (some ⟨Jb, 0, none⟩), .pointer (some ⟨Pb, 0, none⟩)])) ∧ (Pb < X.heap.size ∧ X.cell? ⟨Pb, 0, none⟩ = some (.func (.func 49) #[] #[.pointer (some ⟨Bk, 0, none⟩)])))
          (first
            | exact hS0
            | assumption
            | exact keepJ (by assumption) (by assumption)
            | exact keepJE (by assumption) (by assumption))
          (first
            | (go_at_call 44; ((with_reducible refine HC1.out.mono ?_); rintro e4 w4 ⟨⟨u4, rfl, hu4⟩, ⟨K4, hKp4⟩, hKe4⟩; obtain ⟨A4, l4, c4, rfl⟩ := U.sl hu4; have hP := Lib.hid (power_calls w4 B b n Bk K4 i hKp4 (Nat.le_trans hB0 hKe4.size) hi9 hlim.out)))
            | (go_at_call 49; ((with_reducible refine hP.out.mono ?_); rintro e5 w5 ⟨⟨u5, rfl, hu5⟩, ⟨K5, hx1, hx2, hKp5⟩, hKe5, hx3⟩; obtain ⟨A5, l5, c5, rfl⟩ := U.sl hu5; have hMu := Lib.hid (mulN w5 _ _ _ _ _ (Un.kee hu4 hKe5) hu5 hl1.out hl2.out rfl); have hK5 := Lib.hid ((hK0.out.trans hKe4).trans hKe5); clear hx3))
            | (go_at_call 47; ((with_reducible refine hMu.out.mono ?_); rintro e6 w6 ⟨u6, rfl, hu6, hE6⟩; obtain ⟨A6, l6, c6, rfl⟩ := U.sl hu6; have hK6 := Lib.hid (hK5.out.ext hB hE6); have HC2 := Lib.hid (HC2'.out w6 K5 (hSx.kee hK6.out) (HJ0.out.kee hK6.out) (hKp5.ext hE6) (Nat.le_trans hB hK6.out.size))))
            | (go_at_call 44; ((with_reducible refine HC2.out.mono ?_); rintro e7 w7 ⟨⟨u7, rfl, hu7⟩, ⟨K7, hKp7⟩, hKe7⟩; obtain ⟨A7, l7, c7, rfl⟩ := U.sl hu7; have hAd := Lib.hid (add_B w7 _ _ _ _ (Un.kee hu6 hKe7) hu7 hl3.out hl4.out _ rfl); have hK7 := Lib.hid (hK6.out.trans hKe7)))
            | (go_at_call 46; ((with_reducible refine hAd.out.mono ?_); rintro e8 w8 ⟨u8, rfl, hu8, hE8⟩; obtain ⟨A8, l8, c8, rfl⟩ := U.sl hu8)))
        rw [HVAL.out] at hu8
        have HU := Lib.hid hu8
        clear hu8
        (try go_wp2)
        go_ret
        exact ⟨⟨_, rfl, HU.out⟩, ⟨K7, hKp7.ext hE8⟩, hK7.out.ext hB hE8⟩
end Go.Proofs.YtigdflfhepelaaaGreatDoor
/- The noughts ahead of a text fall. -/
namespace Go.Proofs
open Go.Shelf
shelf_lay Lays.n161 Nm 161 at Tryz as Tryz.lays161
end Go.Proofs
namespace Go.Proofs.YtigdflfhepelaaaGreatDoor
open Go.RowKit Go.Shelf Go.Lib
set_option linter.unusedVariables false
set_option maxHeartbeats 1000000

theorem trim_calls (w : World) (ds : List Nat) (h : ∀ d ∈ ds, d < 36) :
    Calls Tryz.prog 39 #[.string (strD ds), .string ⟨#[48]⟩] w fun e w' => e = .returned (.string (strD (strip0 ds))) ∧ Ext w w' := by
  have hcon := Any.strings_TrimLeft_laid Tryz.lays161 (by kernel_rfl) (strD ds) ⟨#[48]⟩ w (by decide) (ascii_of_all (by decide))
  have e : (⟨(Lib.trimLeftS (strD ds).data.toList [48]).toArray⟩ : ByteArray) = strD (strip0 ds) := by
    rw [strD_data, trim_byteL ds h]; rfl
  change Calls Tryz.prog 39 _ _ (fun e w' => e = .returned (.string ⟨(Lib.trimLeftS (strD ds).data.toList [48]).toArray⟩) ∧ Below w.heap.size w w') at hcon
  rw [e] at hcon
  exact hcon
end Go.Proofs.YtigdflfhepelaaaGreatDoor
/- The digits of a natural: the program's Text. -/
namespace Go.Proofs.YtigdflfhepelaaaGreatDoor
open Go.RowKit
set_option linter.unusedVariables false
set_option maxHeartbeats 400000

theorem least_of (b n a : Nat) : ∀ m, a < kp b n m → ∃ I, I ≤ m ∧ a < kp b n I ∧ ∀ j, j < I → kp b n j ≤ a := by
  intro m
  induction m with
  | zero => intro h; exact ⟨0, Nat.le_refl _, h, fun j hj => by omega⟩
  | succ m ih =>
    intro h
    rcases Nat.lt_or_ge a (kp b n m) with h1 | h1
    · obtain ⟨I, h2, h3⟩ := ih h1
      exact ⟨I, by omega, h3⟩
    · by_cases h2 : ∃ j, j < m + 1 ∧ a < kp b n j
      · obtain ⟨j, hj, hj2⟩ := h2
        have hjm : j < m := by
          rcases Nat.lt_or_ge j m with h | h
          · exact h
          · obtain rfl : j = m := by omega
            omega
        have hmono : ∀ d, kp b n j ≤ kp b n (j + d) := by
          intro d
          induction d with
          | zero => exact Nat.le_refl _
          | succ d ihd =>
            rw [show j + (d + 1) = (j + d) + 1 by omega, kp_succ]
            rcases Nat.eq_zero_or_pos (kp b n (j + d)) with h0 | h0
            · rw [h0] at ihd ⊢; omega
            · exact Nat.le_trans ihd (Nat.le_mul_of_pos_left _ h0)
        have := hmono (m - j)
        rw [show j + (m - j) = m by omega] at this
        omega
      · refine ⟨m + 1, Nat.le_refl _, h, fun j hj => ?_⟩
        rcases Nat.lt_or_ge a (kp b n j) with h3 | h3
        · exact absurd ⟨j, hj, h3⟩ h2
        · exact h3
theorem least_kp (b n a : Nat) (hb : 2 ≤ b) (hn : 1 ≤ n) (hl : (limbs a).length ≤ 398) : ∃ I, I ≤ 10 ∧ a < kp b n I ∧ ∀ j, j < I → kp b n j ≤ a := by
  refine least_of b n a 10 ?_
  have h1 : a < 4294967296 ^ (limbs a).length := lt_of_len_le (Nat.le_refl _)
  generalize (limbs a).length = L at *
  have e0 : (4294967296 : Nat) = 2 ^ 32 := rfl
  rw [e0, ← Nat.pow_mul] at h1
  unfold kp
  obtain ⟨E, hE⟩ : ∃ E, 16 * n * 2 ^ 10 = E := ⟨_, rfl⟩
  have hE2 : 32 * L ≤ E := by
    have : (2 : Nat) ^ 10 = 1024 := rfl
    rw [this] at hE
    omega
  rw [hE]
  have h2 : 2 ^ (32 * L) ≤ 2 ^ E := Nat.pow_le_pow_right (by decide) hE2
  have h3 : 2 ^ E ≤ b ^ E := Nat.pow_le_pow_left hb E
  omega
theorem infoU8m : (Tryz.prog.info? 5).map (fun i => (i.zero, i.size, i.bytes)) = some (some (.int .u8 0), 1, 1) := by kernel_rfl
theorem infoU8_parts : ∃ i0 : TypeInfo, Tryz.prog.info? 5 = some i0 ∧ i0.zero = some (.int .u8 0) ∧ i0.size = 1 ∧ i0.bytes = 1 := by
  cases h : Tryz.prog.info? 5 with
  | none =>
    have := infoU8m
    rw [h] at this
    cases this
  | some i0 =>
    have := infoU8m
    rw [h] at this
    simp only [Option.map_some, Option.some.injEq, Prod.mk.injEq] at this
    exact ⟨i0, rfl, this.1, this.2.1, this.2.2⟩
/-- A new row of bytes. -/
theorem By.made {w1 : World} {base g n : Nat} (h : w1.ownsRow base 5 1 (.slice (some ⟨g, 0, none⟩) n n) n (madeCells (Value.int .u8 0).cells (n * 1)).toList) : By 5 w1 g (List.replicate n 0) := by
  have hm : (madeCells (Value.int .u8 0).cells (n * 1)).toList = List.replicate n (Value.int .u8 0) := by
    rw [Nat.mul_one]; exact toList_madeCells_one _ _
  rw [hm] at h
  rcases h.2 with ⟨e, _⟩ | ⟨g2, cap, cur, e, hbg, hg, hnc, hcm, hcs, htake⟩
  · cases e
  · injection e with e1 e2 e3
    injection e1 with e1
    injection e1 with e1
    subst e1
    subst e3
    have hcur : cur = (Bv (List.replicate n 0)).toArray := by
      apply Array.toList_inj.1
      have : cur.toList.take (n * 1) = cur.toList := List.take_of_length_le (by rw [Array.length_toList]; omega)
      rw [← this, htake]
      simp [Bv]
    unfold By
    rw [hg, hcur]
/-- Digits as text. -/
theorem text_of (w : World) (g len cap : Nat) (ds : List Nat) (hd : ∀ d ∈ ds, d < 36) (hl : ds.length = len) (h : By 5 w g (ds.map digB)) :
    (convert 49 9 (.slice (some ⟨g, 0, none⟩) len cap)).run Tryz.prog w = .ok (.string (strD ds)) w := by
  have := run_convert_bytes_back (P := Tryz.prog) w 49 9 5 ⟨g, 0, none⟩ cap (byteL ds) Tryz.underlying49 Tryz.underlying5 Tryz.underlying9 (fun j hj => by
    have hj2 : j < ds.length := by rwa [byteL_len] at hj
    rw [addr_zero_add, h.cell (j := j) (by rw [List.length_map]; exact hj2)]
    have e1 : ((byteL ds)[j]'hj).toNat = digB (ds[j]'hj2) := by
      simp only [byteL, List.getElem_map]
      exact digB_nat (hd _ (List.getElem_mem hj2))
    rw [e1]
    congr 2
    unfold lb
    simp [hj2])
  rw [byteL_len, hl] at this
  exact this
end Go.Proofs.YtigdflfhepelaaaGreatDoor
/- The digits of a natural: the program's Text, walked. -/
namespace Go.Proofs.YtigdflfhepelaaaGreatDoor
open Go.RowKit
set_option linter.unusedVariables false
set_option maxHeartbeats 400000

theorem text_fin (b a : Nat) (h2 : 2 ≤ b) : ∃ bb, (strD (nd b a)).toList.isEmpty = bb ∧ (bb = true ∧ strD (dt b a) = ⟨#[48]⟩ ∨ bb = false ∧ strD (dt b a) = strD (nd b a)) := by
  by_cases ha0 : a = 0
  · subst ha0
    exact ⟨true, by rw [nd_zero, ByteArray.toList_eq]; rfl, .inl ⟨rfl, by rw [dt_zero]; rfl⟩⟩
  · refine ⟨false, ?_, .inr ⟨rfl, by rw [dt_pos ha0]⟩⟩
    rw [ByteArray.toList_eq, strD_data]
    have := nd_ne ha0 h2
    cases e : nd b a with
    | nil => exact absurd e this
    | cons x xs => rfl

set_option maxRecDepth 100000 in
set_option maxHeartbeats 4000000 in
theorem text_calls (w : World) (va : Value) (a b : Nat) (hu : Un w va a) (hal : (limbs a).length ≤ 398) (h2 : 2 ≤ b) (h36 : b ≤ 36) :
    Calls Tryz.prog 14 #[va, .int .i64 (b : Nat)] w fun e w' => e = .returned (.tuple #[.string (strD (dt b a)), .int .i64 0]) ∧ Ext w w' := by
  obtain ⟨A, l, c, rfl⟩ := U.sl hu
  have hmf : ∀ (fn : Fn) (first cap : Array Value) (w : World), (Instr.makeFunc fn first cap).run Tryz.prog w = .ok (.func fn first cap) w := fun _ _ _ _ => rfl
  have hb2 : ¬ (b < 2) := by omega
  have hb36 : ¬ (36 < b) := by omega
  have hb2i : ¬ ((b : Int) < 2) := by omega
  have hb36i : ¬ ((b : Int) > 36) := by omega
  go_enter Tryz.func14, Tryz.ntmps14
  go_upto_region 7 with (first
    | (go_at_call 32; refine (scaleOf_calls _ b h2 h36).mono ?_; rintro e w3 ⟨⟨n, p, hS, rfl⟩, hE3⟩)
    | (go_at_call 33; refine (kpowers_calls _ w.heap.size b n p hS (by have := hE3.size; simp; omega)).mono ?_; rintro e w4 ⟨⟨Bk, rfl, hKp, hBk⟩, hE4⟩))
  have hsz4 := hE4.size
  have hs3 : w3.heap.size < w4.heap.size := by simp at hsz4; omega
  have hE5 : Ext w4 ((w4.alloc (.cells #[Pfn Bk] 58)).alloc (.cells #[Sfn w3.heap.size w4.heap.size (w4.heap.size + 1)] 60)) := ((Ext.refl w4).alloc _).alloc _
  have hSc5 := (SBx.new w3 b n p |>.ext hE4).ext hE5
  have hPb5 : Fb ((w4.alloc (.cells #[Pfn Bk] 58)).alloc (.cells #[Sfn w3.heap.size w4.heap.size (w4.heap.size + 1)] 60)) w4.heap.size (Pfn Bk) := ⟨by simp; omega, by go_simp⟩
  have hSb5 : Fb ((w4.alloc (.cells #[Pfn Bk] 58)).alloc (.cells #[Sfn w3.heap.size w4.heap.size (w4.heap.size + 1)] 60)) (w4.heap.size + 1) (Sfn w3.heap.size w4.heap.size (w4.heap.size + 1)) := ⟨by simp, by go_simp⟩
  have hKp5 := hKp.ext hE5
  have hE05 : Ext w ((w4.alloc (.cells #[Pfn Bk] 58)).alloc (.cells #[Sfn w3.heap.size w4.heap.size (w4.heap.size + 1)] 60)) := ((hE3.alloc _).below hE4).below hE5
  have hu5 : Un _ (.slice A l c) a := hu.below hE05
  unfold Pfn Sfn at *
  generalize ((w4.alloc (.cells #[.func (.func 49) #[] #[.pointer (some ⟨Bk, 0, none⟩)]] 58)).alloc (.cells #[.func (.func 34) #[] #[.pointer (some ⟨w3.heap.size, 0, none⟩), .pointer (some ⟨w4.heap.size, 0, none⟩), .pointer (some ⟨w4.heap.size + 1, 0, none⟩)]] 60)) = w5 at *
  have hB5 : w.heap.size ≤ w5.heap.size := hE05.size
  generalize w3.heap.size = S at *
  generalize w4.heap.size = Pb at *
  generalize Pb + 1 = Sb at *
  obtain ⟨I, hI10, haI, hlI⟩ := least_kp b n a h2 hS.n1 hal
  have hAB := Lib.hid (above_calls w5 w.heap.size b n Bk 1 a I _ hu5 hKp5 hB5 (by omega) haI hlI hal)
  have hPbc := hPb5.2
  clear hKp hE5 hE4 hE3 hsz4 hs3 hBk
  go_upto_region 8 with (go_at_call 37; refine hAB.out.mono ?_; rintro e w6 ⟨rfl, ⟨K, hIK, _, hKp6⟩, hKe6⟩)
  have hE6 : Ext w w6 := Below.trans hE05 hKe6.below
  have hSc6 := hSc5.kee hKe6
  have hPb6 := hPb5.kee hKe6 (by rintro ⟨_, _, _, e⟩; cases e)
  have hSb6 := hSb5.kee hKe6 (by rintro ⟨_, _, _, e⟩; cases e)
  have hu6 := Un.kee hu5 hKe6
  obtain ⟨s0, s1, s2, s3⟩ := id hSc6
  obtain ⟨T, hT⟩ : ∃ T, 2 ^ I = T := ⟨_, rfl⟩
  have hT1 : T ≤ 1024 ∧ 1 ≤ T := by rw [← hT]; exact ⟨Nat.pow_le_pow_right (by decide) hI10, Nat.two_pow_pos I⟩
  obtain ⟨len, hlen⟩ : ∃ len, 16 * n * T = len := ⟨_, rfl⟩
  have hlen5 : len ≤ 16 * 31 * 1024 := by rw [← hlen]; exact Nat.mul_le_mul (Nat.mul_le_mul_left _ hS.n32) hT1.1
  clear hAB hPbc hSc5 hPb5 hSb5 hu5 hKp5 hE05 hKe6
  have o0 : (16 : Int) * (n : Int) * 2 ^ I = (len : Int) := by
    rw [← hlen, ← hT]; simp
  have o1 : IntKind.i64.wrap ((16 : Int) * (n : Int) * 2 ^ I) = (len : Int) := by rw [o0, IntKind.wrap_i64]; omega
  have o2 : IntKind.i64.wrap (len : Int) = (len : Int) := by rw [IntKind.wrap_i64]; omega
  have hlen1 : 1 ≤ len := by rw [← hlen]; have := hS.n1; exact Nat.mul_pos (by omega) hT1.2
  obtain ⟨i0, hi, hz0, hz1, hz2⟩ := infoU8_parts
  have HT := Lib.hid hT
  have HLEN := Lib.hid hlen
  have hd36 : Hid (∀ d ∈ bdig b a len, d < 36) := fun d hd => Nat.lt_of_lt_of_le (bdig_lt b _ _ (by omega) d hd) h36
  have hst : strip0 (bdig b a len) = nd b a := strip0_bdig b h2 len a (by have := haI; unfold kp at this; rw [hT, hlen] at this; exact this)
  have hTRIM := Lib.hid (fun W => trim_calls W (bdig b a len) hd36.out)
  rw [hst] at hTRIM
  obtain ⟨bb, hie, hfin⟩ := text_fin b a h2
  clear hT hlen hT1
  generalize strD (nd b a) = T1 at *
  rcases hfin with ⟨rfl, hf⟩ | ⟨rfl, hf⟩
  all_goals (
   have HF := Lib.hid hf
   clear hf
   go_wp2_with (first
    | (go_at_call 38; refine (piece_calls _ b n p hS).mono ?_; rintro e w7 ⟨rfl, hE7⟩; have hE07 := hE6.below hE7; have hg7 := hE07.size)
    | (at_make; refine wpList_make_full _ rfl _ _ 49 rfl w7.heap.size 5 i0 (.int .u8 0) 1 Tryz.underlying49 hi hz0 hz1 _ _ _ _ len rfl rfl (by omega) (by omega) (by rw [hz2]; omega) (by unfold maxLen; omega) (by simp) ?_; intro w8 hown hgrow; have hE8 : Ext w7 w8 := (Ext.refl w7).grown hgrow (Nat.le_refl _) (fun _ h => by cases h); have hBy8 := By.made hown; have hE78 := hE7.below hE8; have hSb8 := hSb6.ext hE78; have hcSb := hSb8.2; have hL8 : Lie w.heap.size b n p w8 S Pb Sb Bk K := ⟨hSc6.ext hE78, hPb6.ext hE78, hSb8, hKp6.ext hE78⟩; have hu8 := Un.below hu6 hE78; have hE08 := hE07.below hE8; have hBy8' : By 5 w8 w7.heap.size ([] ++ (List.replicate len 0 ++ [])) := (by { simpa using hBy8 }); have hSP := Lib.hid (split_calls w.heap.size b n p S Pb Sb Bk K w7.heap.size len hS (by omega) I hIK (by omega) (fun j hj => kp_len (hlI j hj) hal) w8 0 len len [] (List.replicate len 0) [] hBy8' rfl (by simp) (by rw [HT.out]; exact HLEN.out) (Nat.le_refl _) (Nat.le_refl _) (by omega) (.slice A l c) a hu8 (by omega) haI hL8 hE08.size); clear hown hgrow hE8 hBy8 hBy8' hE78 hL8 hu8 hSb8 hE07 hE7)
    | (go_at_call 34; refine hSP.out.mono ?_; rintro e w9 ⟨rfl, hBy9, hbut9⟩; have hE9 := hE08.but hbut9 hg7; have hcv := text_of w9 w7.heap.size len len (bdig b a len) hd36.out (bdig_len _ _ _) (by { simpa using hBy9 }); have hTR := hTRIM.out w9; generalize strD (bdig b a len) = T0 at *; clear hBy9 hbut9)
    | (go_at_call 39; refine hTR.mono ?_; rintro e w10 ⟨rfl, hE10⟩))
   go_ret2
   exact ⟨by rw [HF.out]; first | done | rfl, hE9.below hE10⟩)
end Go.Proofs.YtigdflfhepelaaaGreatDoor
/- A text is read: the program's Read. -/
namespace Go.Proofs.YtigdflfhepelaaaGreatDoor
open Go.RowKit
set_option linter.unusedVariables false
set_option maxHeartbeats 400000

theorem worL_at (S : ByteArray) (i : Nat) (hi : i < S.size) : lb (worL S) i = worB ((S[i]'hi).toNat) := by
  unfold lb worL
  have h2 : i < S.data.toList.length := by rw [Array.length_toList]; exact hi
  simp only [List.getElem?_map, List.getElem?_eq_getElem h2, Option.map_some, Option.getD_some, Array.getElem_toList]
  rfl
theorem worL_mem (S : ByteArray) (b : Nat) (h : ∀ j, j < S.size → lb (worL S) j < b) : ∀ d ∈ worL S, d < b := by
  intro d hd
  obtain ⟨j, hj, rfl⟩ := List.getElem_of_mem hd
  have h1 := h j (by rw [worL_len] at hj; exact hj)
  unfold lb at h1
  simpa [hj] using h1
/-- What Read answers. -/
def RdA (w w' : World) (e : Ending) (S : ByteArray) (b : Nat) : Prop :=
  (∃ i, i < S.size ∧ (∀ j, j < i → lb (worL S) j < b) ∧ b ≤ lb (worL S) i ∧ e = .returned (.tuple #[.slice none 0 0, .int .i64 (i : Nat), .int .i64 50]) ∧ w' = w) ∨
  (S.size = 0 ∧ e = .returned (.tuple #[.slice none 0 0, .int .i64 0, .int .i64 50]) ∧ w' = w) ∨
  (S.size ≠ 0 ∧ (∀ d ∈ worL S, d < b) ∧ ∃ u, e = .returned (.tuple #[u, .int .i64 0, .int .i64 0]) ∧ Un w' u (bval b (worL S)) ∧ Ext w w')
theorem isEmpty_size (S : ByteArray) : S.toList.isEmpty = decide (S.size = 0) := by
  rw [ByteArray.toList_eq]
  show S.data.toList.isEmpty = decide (S.data.size = 0)
  cases h : S.data.toList with
  | nil =>
    have : S.data.size = 0 := by rw [← Array.length_toList, h]; rfl
    rw [this]; rfl
  | cons x xs =>
    have : S.data.size ≠ 0 := by rw [← Array.length_toList, h]; simp
    rw [decide_eq_false this]; rfl
theorem strip0_le (ds : List Nat) : (strip0 ds).length ≤ ds.length := by
  obtain ⟨k, hk⟩ := strip0_split ds
  have := congrArg List.length hk
  rw [List.length_append, List.length_replicate] at this
  omega
theorem strip0_mem (ds : List Nat) : ∀ d ∈ strip0 ds, d ∈ ds := by
  intro d hd
  obtain ⟨k, hk⟩ := strip0_split ds
  rw [hk]
  exact List.mem_append_right _ hd
set_option maxRecDepth 100000 in
set_option maxHeartbeats 4000000 in
theorem read_calls (w : World) (S : ByteArray) (b : Nat) (h2 : 2 ≤ b) (h36 : b ≤ 36) (hl : S.size ≤ 19000) (hM : (limbs (b ^ S.size)).length ≤ 398) :
    Calls Tryz.prog 18 #[.string S, .int .i64 (b : Nat)] w fun e w' => RdA w w' e S b := by
  have hmf : ∀ (fn : Fn) (first cap : Array Value) (w : World), (Instr.makeFunc fn first cap).run Tryz.prog w = .ok (.func fn first cap) w := fun _ _ _ _ => rfl
  have hb2 : ¬ (b < 2) := by omega
  have hb36 : ¬ (36 < b) := by omega
  have hb2i : ¬ ((b : Int) < 2) := by omega
  have hb36i : ¬ ((b : Int) > 36) := by omega
  have hat := Lib.hid (worL_at S)
  have hws := Lib.hid (worL_mem S b)
  have hwl := Lib.hid (worL_len S)
  have hie := isEmpty_size S
  obtain ⟨L, hL⟩ : ∃ L, S.size = L := ⟨_, rfl⟩
  have HL := Lib.hid hL
  rw [hL] at hl hM hie
  unfold RdA
  go_enter Tryz.func18, Tryz.ntmps18
  go_wp2
  go_loopw [19] (fun t wr => ∃ i, i ≤ L ∧ t = .int .i64 (i : Nat) ∧ Hid (∀ j, j < i → lb (worL S) j < b) ∧ wr = w) (fun t _ => L - (intOf t).toNat)
  case atStart => exact ⟨0, Nat.zero_le _, rfl, fun j hj => by omega, rfl⟩
  case round =>
    obtain ⟨i, hi, rfl, HI, rfl⟩ := hrel
    by_cases hlt : i < L
    · have hi1 : (i : Int) < (L : Int) := by omega
      have hi2 : i < S.size := by omega
      have h1 := hat.out i hi2
      obtain ⟨c, hc⟩ : ∃ c, (S[i]'hi2).toNat = c := ⟨_, rfl⟩
      have hc256 : c < 256 := by rw [← hc]; exact UInt8.toNat_lt _
      rw [hc] at h1
      obtain ⟨v, hv⟩ : ∃ v, worB c = v := ⟨_, rfl⟩
      have hv99 := worB_le c
      rw [hv] at h1 hv99
      have hbw : IntKind.u32.wrap (b : Int) = (b : Int) := by rw [IntKind.wrap_u32]; omega
      have hbm : (b : Int) % 4294967296 = (b : Int) := by omega
      by_cases hge : b ≤ v
      · have hge1 : (b : Int) ≤ (v : Int) := by omega
        have HE : Hid (b ≤ lb (worL S) i) := by rw [h1]; exact hge
        clear h1
        go_wp2_with (go_at_call 43; refine (worth_calls _ c hc256).mono ?_; rintro e w3 ⟨rfl, rfl⟩; rw [hv])
        go_ret3
        exact .inl ⟨i, by rw [HL.out]; exact hlt, HI.out, HE.out, rfl, rfl⟩
      · have hge1 : ¬ ((b : Int) ≤ (v : Int)) := by omega
        have HN : Hid (∀ j, j < i + 1 → lb (worL S) j < b) := fun j hj => by
          rcases Nat.lt_or_ge j i with h | h
          · exact HI.out j h
          · obtain rfl : j = i := by omega
            rw [h1]; omega
        clear h1 HI
        go_wp2_with (go_at_call 43; refine (worth_calls _ c hc256).mono ?_; rintro e w3 ⟨rfl, rfl⟩; rw [hv])
        go_roundw
        case rel => exact ⟨i + 1, by omega, by go_num, HN, by trivial⟩
        case measure => simp [intOf]; omega
    · obtain rfl : i = L := by omega
      by_cases h0 : i = 0
      · have hie2 : S.toList.isEmpty = true := by rw [hie, h0]; rfl
        have HL0 : Hid (S.size = 0) := by show _ = _; rw [HL.out, h0]
        clear hie h0
        go_wp2
        go_ret3
        exact .inr (.inl ⟨HL0.out, rfl, rfl⟩)
      · have hie2 : S.toList.isEmpty = false := by rw [hie]; exact decide_eq_false h0
        have HL0 : Hid (S.size ≠ 0) := by show _ ≠ _; rw [HL.out]; exact h0
        have hda := hws.out (fun j hj => HI.out j (by rw [← HL.out]; exact hj))
        have HDA := Lib.hid hda
        clear hie h0 HI hda hlt
        obtain ⟨ds, hds⟩ : ∃ ds, worL S = ds := ⟨_, rfl⟩
        rw [hds] at HDA hwl
        have hd36 : ∀ d ∈ ds, d < 36 := fun d h => by have := HDA.out d h; omega
        have eS : strD ds = S := by rw [← hds]; exact strD_worL S (by rw [hds]; exact hd36)
        have hTR := Lib.hid (fun W => trim_calls W ds hd36)
        rw [eS] at hTR
        have hsl : (strip0 ds).length ≤ i := by have := strip0_le ds; have := hwl.out; have := HL.out; omega
        have hJC := Lib.hid (fun n p (hS : Sc b n p) Sx Jb Pb Bk W h1 h2 h3 h4 => rjoin_calls wr.heap.size b n p Sx Jb Pb Bk i hS hM hl (strip0 ds).length hsl W (strip0 ds) 1 rfl (fun d h => HDA.out d (strip0_mem ds d h)) h1 h2 h3 h4)
        have HVAL := Lib.hid (bval_strip0 b ds)
        have HDS := Lib.hid hds
        generalize strD (strip0 ds) = T1 at *
        clear hds hd36 eS hsl hM
        go_upto_region 15 with (first
          | (go_at_call 32; refine (scaleOf_calls _ b h2 h36).mono ?_; rintro e w3 ⟨⟨n, p, hS, rfl⟩, hE3⟩)
          | (go_at_call 33; refine (kpowers_calls _ wr.heap.size b n p hS (by have := hE3.size; simp; omega)).mono ?_; rintro e w4 ⟨⟨Bk, rfl, hKp, hBk⟩, hE4⟩))
        have hsz4 := hE4.size
        have hs3 : w3.heap.size < w4.heap.size := by simp at hsz4; omega
        have hE5 : Ext w4 ((w4.alloc (.cells #[Pfn Bk] 58)).alloc (.cells #[Jfn w3.heap.size (w4.heap.size + 1) w4.heap.size] 72)) := ((Ext.refl w4).alloc _).alloc _
        have hSc5 := (SBx.new w3 b n p |>.ext hE4).ext hE5
        have hJ5 : Jx w3.heap.size (w4.heap.size + 1) w4.heap.size Bk ((w4.alloc (.cells #[Pfn Bk] 58)).alloc (.cells #[Jfn w3.heap.size (w4.heap.size + 1) w4.heap.size] 72)) := ⟨⟨by simp, by go_simp⟩, ⟨by simp; omega, by go_simp⟩⟩
        have hKp5 := hKp.ext hE5
        have hE05 : Ext wr ((w4.alloc (.cells #[Pfn Bk] 58)).alloc (.cells #[Jfn w3.heap.size (w4.heap.size + 1) w4.heap.size] 72)) := ((hE3.alloc _).below hE4).below hE5
        unfold Pfn Jfn at *
        generalize ((w4.alloc (.cells #[.func (.func 49) #[] #[.pointer (some ⟨Bk, 0, none⟩)]] 58)).alloc (.cells #[.func (.func 44) #[] #[.pointer (some ⟨w3.heap.size, 0, none⟩), .pointer (some ⟨w4.heap.size + 1, 0, none⟩), .pointer (some ⟨w4.heap.size, 0, none⟩)]] 72)) = w5 at *
        have hB5 : wr.heap.size ≤ w5.heap.size := hE05.size
        generalize w3.heap.size = Sx at *
        generalize w4.heap.size = Pb at *
        generalize Pb + 1 = Jb at *
        have hEd : Ext w5 w5.drew := (Ext.refl w5).drew
        have hS0 : (Jb < w5.drew.heap.size ∧ w5.drew.cell? ⟨Jb, 0, none⟩ = some (.func (.func 44) #[] #[.pointer (some ⟨Sx, 0, none⟩), .pointer (some ⟨Jb, 0, none⟩), .pointer (some ⟨Pb, 0, none⟩)])) ∧ (Pb < w5.drew.heap.size ∧ w5.drew.cell? ⟨Pb, 0, none⟩ = some (.func (.func 49) #[] #[.pointer (some ⟨Bk, 0, none⟩)])) := hJ5.ext hEd
        have hJ5d : Jx Sx Jb Pb Bk w5.drew := hJ5.ext hEd
        have hSc5d := hSc5.ext hEd
        have hKp5d := hKp5.ext hEd
        have hTR5 := Lib.hid (hTR.out w5.drew)
        clear hKp hE5 hE4 hE3 hsz4 hs3 hBk hJ5 hSc5 hKp5 hTR
        go_region_held3 (fun X => (Jb < X.heap.size ∧ X.cell? ⟨Jb, 0, none⟩ = some (.func (.func 44) #[] #[.pointer (some ⟨Sx, 0, none⟩), .pointer (some ⟨Jb, 0, none⟩), .pointer (some ⟨Pb, 0, none⟩)])) ∧ (Pb < X.heap.size ∧ X.cell? ⟨Pb, 0, none⟩ = some (.func (.func 49) #[] #[.pointer (some ⟨Bk, 0, none⟩)])))
          (first
            | exact hS0
            | assumption
            | exact keepJ (by assumption) (by assumption)
            | exact keepJE (by assumption) (by assumption))
          (first
            | (go_at_call 39; ((with_reducible refine hTR5.out.mono ?_); rintro e6 w6 ⟨rfl, hE6⟩; have hJj := Lib.hid (hJC.out n p hS Sx Jb Pb Bk w6 (hSc5d.ext hE6) (hJ5d.ext hE6) (hKp5d.ext hE6) (Nat.le_trans hB5 hE6.size))))
            | (go_at_call 44; ((with_reducible refine hJj.out.mono ?_); rintro e7 w7 ⟨⟨u7, rfl, hu7⟩, ⟨K7, hKp7⟩, hKe7⟩; obtain ⟨A7, l7, c7, rfl⟩ := U.sl hu7)))
        rw [HVAL.out] at hu7
        have HU := Lib.hid hu7
        have HE7 := Lib.hid (Below.trans ((hE05.below hEd).below hE6) hKe7.below)
        clear hu7
        (try go_wp2)
        go_ret3
        exact .inr (.inr ⟨HL0.out, by rw [HDS.out]; exact HDA.out, _, rfl, by rw [HDS.out]; exact HU.out, HE7.out⟩)
end Go.Proofs.YtigdflfhepelaaaGreatDoor
/- How many digits: the program's Count. -/
namespace Go.Proofs.YtigdflfhepelaaaGreatDoor
open Go.RowKit
set_option linter.unusedVariables false
set_option maxHeartbeats 400000

/-- The count so far: N digits lie behind a. -/
structure CtI (b n a0 k a N : Nat) : Prop where
  lt : a < kp b n k
  len : (nd b a0).length = N + (nd b a).length
  nz : a = 0 → a0 = 0
  le : a ≤ a0
theorem CtI.start {b n a0 k : Nat} (h : a0 < kp b n k) : CtI b n a0 k a0 0 := ⟨h, by omega, fun h => h, Nat.le_refl _⟩
theorem CtI.stay {b n a0 k a N : Nat} (h : CtI b n a0 (k + 1) a N) (hlt : a < kp b n k) : CtI b n a0 k a N := ⟨hlt, h.len, h.nz, h.le⟩
theorem CtI.cut {b n a0 k a N : Nat} (h : CtI b n a0 (k + 1) a N) (hb : 2 ≤ b) (hge : kp b n k ≤ a) (q : Nat) (hq : a / kp b n k = q) : CtI b n a0 k q (N + 16 * n * 2 ^ k) := by
  have h1 := (kp_split b n k a hb h.lt).1
  have h2 := nd_split b hb a (16 * n * 2 ^ k) hge
  have h3 := congrArg List.length h2
  rw [List.length_append, bdig_len] at h3
  have h0 : 0 < kp b n k := by unfold kp; exact Nat.pow_pos (by omega)
  rw [hq] at h1
  refine ⟨h1, ?_, fun e => ?_, Nat.le_trans (by rw [← hq]; exact Nat.div_le_self _ _) h.le⟩
  · rw [h.len, h3]
    have : a / b ^ (16 * n * 2 ^ k) = q := hq
    rw [this]; omega
  · exfalso
    have := Nat.div_pos hge h0
    omega
theorem CtI.done {b n a0 a N : Nat} (h : CtI b n a0 0 a N) (hb : 2 ≤ b) (m : Nat) (hm : (if (nd b a).length < 1 then 1 else (nd b a).length) = m) : (dt b a0).length = N + m := by
  have hl := h.len
  by_cases ha : a = 0
  · have h0 := h.nz ha
    subst ha
    subst h0
    rw [nd_zero] at hm hl
    rw [dt_zero]
    simp at hm hl
    simp
    omega
  · have h0 : a0 ≠ 0 := fun e => ha (by have := h.le; omega)
    rw [dt_pos h0, hl]
    have : 1 ≤ (nd b a).length := by
      have := nd_ne ha hb
      cases e : nd b a with
      | nil => exact absurd e this
      | cons x xs => simp
    rw [if_neg (by omega)] at hm
    omega

set_option maxRecDepth 100000 in
set_option maxHeartbeats 4000000 in
theorem count_calls (w : World) (va : Value) (a0 b : Nat) (hu : Un w va a0) (hal : (limbs a0).length ≤ 398) (h2 : 2 ≤ b) (h36 : b ≤ 36) :
    Calls Tryz.prog 16 #[va, .int .i64 (b : Nat)] w fun e w' => e = .returned (.tuple #[.int .i64 ((dt b a0).length : Nat), .int .i64 0]) ∧ Ext w w' := by
  obtain ⟨A, l, c, rfl⟩ := U.sl hu
  have hb2 : ¬ (b < 2) := by omega
  have hb36 : ¬ (36 < b) := by omega
  have hb2i : ¬ ((b : Int) < 2) := by omega
  have hb36i : ¬ ((b : Int) > 36) := by omega
  go_enter Tryz.func16, Tryz.ntmps16
  go_upto_region 5 with (first
    | (go_at_call 32; refine (scaleOf_calls _ b h2 h36).mono ?_; rintro e w3 ⟨⟨n, p, hS, rfl⟩, hE3⟩)
    | (go_at_call 33; refine (kpowers_calls _ w.heap.size b n p hS (by have := hE3.size; simp; omega)).mono ?_; rintro e w5 ⟨⟨Bk, rfl, hKp5, hBk⟩, hE4⟩))
  have hSc5 := (SBx.new w3 b n p).ext hE4
  have hE05 : Ext w w5 := (hE3.alloc _).below hE4
  have hu5 : Un _ (.slice A l c) a0 := hu.below hE05
  have hB5 : w.heap.size ≤ w5.heap.size := hE05.size
  generalize w3.heap.size = S at *
  obtain ⟨I, hI10, haI, hlI⟩ := least_kp b n a0 h2 hS.n1 hal
  have hAB := Lib.hid (above_calls w5 w.heap.size b n Bk 1 a0 I _ hu5 hKp5 hB5 (by omega) haI hlI hal)
  have hNL : Hid ((nd b a0).length ≤ 16 * 31 * 1024) := by
    have h1 := pow_nd_le b h2 a0 (16 * n * 2 ^ I) haI
    have h3 : 16 * n * 2 ^ I ≤ 16 * 31 * 2 ^ 10 := Nat.mul_le_mul (Nat.mul_le_mul_left _ hS.n32) (Nat.pow_le_pow_right (by decide) hI10)
    have h4 : (2 : Nat) ^ 10 = 1024 := rfl
    rw [h4] at h3
    exact Nat.le_trans h1 h3
  unfold Pfn at *
  clear hE4 hE3 hBk
  go_wp2_with (go_at_call 37; refine hAB.out.mono ?_; rintro e w6 ⟨rfl, ⟨K, hIK, _, hKp6⟩, hKe6⟩)
  have hE6 : Ext w w6 := Below.trans hE05 hKe6.below
  have hSc6 := hSc5.kee hKe6
  have hu6 := Un.kee hu5 hKe6
  have HC0 := Lib.hid (CtI.start haI)
  have hlim := Lib.hid (fun j (hj : j < I) => kp_len (hlI j hj) hal)
  have hK1000 := hKp6.k1
  clear hAB hSc5 hu5 hKp5 hE05 hKe6 hlI haI
  have HIK := Lib.hid hIK
  clear hIK
  go_loopw [9, 0, 8] (fun t s r wr => ∃ (k a N : Nat) (z : Int), k ≤ I ∧ t = .int .i64 z ∧ z = (k : Int) - 1 ∧ Un wr s a ∧ r = .int .i64 (N : Nat) ∧ Hid (CtI b n a0 k a N) ∧ SBx wr S b n p ∧ Hid (Kp w.heap.size b n wr Bk K) ∧ Ext w wr) (fun t _ _ _ => (intOf t + 1).toNat)
  case atStart => exact ⟨I, a0, 0, _, Nat.le_refl _, rfl, rfl, hu6, rfl, HC0, hSc6, hKp6, hE6⟩
  case round =>
    clear HC0 hu6 hSc6 hKp6 hE6
    obtain ⟨k, a, N, z, hk, rfl, hz, hua, rfl, HC, hSx, HK, hE⟩ := hrel
    have hN : N ≤ 16 * 31 * 1024 := by have := HC.out.len; have := hNL.out; omega
    have hla : (limbs a).length ≤ 398 := Nat.le_trans (len_mono HC.out.le) hal
    obtain ⟨A2, l2, c2, rfl⟩ := U.sl hua
    cases k with
    | zero =>
      obtain rfl : z = -1 := by omega
      clear hz
      obtain ⟨s0, s1, s2, s3⟩ := id hSx
      obtain ⟨len, hlen⟩ : ∃ len, 16 * n = len := ⟨_, rfl⟩
      have hn31 := hS.n32
      have hn1 := hS.n1
      have hlen5 : len ≤ 16 * 31 := by omega
      have hlen1 : 1 ≤ len := by omega
      have o0 : (16 : Int) * (n : Int) = (len : Int) := by omega
      have hkp0 : a < b ^ len := by
        have h := HC.out.lt
        unfold kp at h
        rw [Nat.pow_zero, Nat.mul_one, hlen] at h
        exact h
      have hd36 : Hid (∀ d ∈ bdig b a len, d < 36) := fun d hd => Nat.lt_of_lt_of_le (bdig_lt b _ _ (by omega) d hd) h36
      have hst : strip0 (bdig b a len) = nd b a := strip0_bdig b h2 len a hkp0
      have hTRIM := Lib.hid (fun W => trim_calls W (bdig b a len) hd36.out)
      rw [hst] at hTRIM
      have hts := strD_size (nd b a)
      obtain ⟨q, hq⟩ : ∃ q, (nd b a).length = q := ⟨_, rfl⟩
      obtain ⟨m, hm⟩ : ∃ m, (if (nd b a).length < 1 then 1 else (nd b a).length) = m := ⟨_, rfl⟩
      have HDONE := Lib.hid (HC.out.done h2 m hm)
      have hqN : q ≤ 16 * 31 * 1024 := by have := HC.out.len; have := hNL.out; omega
      rw [hq] at hm hts
      have o1 : (if (q : Int) < 1 then (1 : Int) else (q : Int)) = (m : Int) := by split <;> split at hm <;> omega
      have o2 : (if (1 : Int) < (q : Int) then (q : Int) else (1 : Int)) = (m : Int) := by split <;> split at hm <;> omega
      have o3 : max (q : Int) 1 = (m : Int) := by split at hm <;> omega
      have o4 : (if q < 1 then (1 : Int) else (q : Int)) = (m : Int) := by split <;> split at hm <;> omega
      have o5 : (if 1 < q then (q : Int) else (1 : Int)) = (m : Int) := by split <;> split at hm <;> omega
      have hm5 : m ≤ 16 * 31 * 1024 := by split at hm <;> omega
      obtain ⟨i0, hi, hz0, hz1, hz2⟩ := infoU8_parts
      have hkpH := Lib.hid hkp0
      have HLN := Lib.hid hlen
      clear hq hm hst hkp0 HC hlen hSx HK
      generalize strD (nd b a) = T1 at *
      have hSx0 : SBx wr S b n p := ⟨s0, s1, s2, s3⟩
      go_wp2_with (first
        | (go_at_call 38; refine (piece_calls _ b n p hS).mono ?_; rintro e w7 ⟨rfl, hE7⟩; have hE07 := hE.below hE7; have hg7 := hE07.size)
        | (at_make; refine wpList_make_full _ rfl _ _ 49 rfl w7.heap.size 5 i0 (.int .u8 0) 1 Tryz.underlying49 hi hz0 hz1 _ _ _ _ len rfl rfl (by omega) (by omega) (by rw [hz2]; omega) (by unfold maxLen; omega) (by simp) ?_; intro w8 hown hgrow; have hE8 : Ext w7 w8 := (Ext.refl w7).grown hgrow (Nat.le_refl _) (fun _ h => by cases h); have hBy8 := By.made hown; have hE78 := hE7.below hE8; have hu8 := Un.below hua hE78; have hE08 := hE07.below hE8; have hBy8' : By 5 w8 w7.heap.size ([] ++ (List.replicate len 0 ++ [])) := (by { simpa using hBy8 }); have hWR := Lib.hid (write_calls w8 b n p hS w7.heap.size 0 len len [] (List.replicate len 0) [] hBy8' rfl (by simp) (Nat.le_refl _) (by omega) (.slice A2 l2 c2) a hu8 (Nat.le_trans hla (by omega)) hkpH.out); obtain ⟨s0, s1, s2, s3⟩ := hSx0.ext hE78; clear hown hgrow hE8 hBy8 hBy8' hE78 hu8 hE07 hE7)
        | (go_at_call 35; refine hWR.out.mono ?_; rintro e w9 ⟨rfl, hBy9, hbut9⟩; have hE9 := hE08.but hbut9 hg7; have hcv := text_of w9 w7.heap.size len len (bdig b a len) hd36.out (bdig_len _ _ _) (by { simpa using hBy9 }); have hTR := hTRIM.out w9; generalize strD (bdig b a len) = T0 at *; clear hBy9 hbut9)
        | (go_at_call 39; refine hTR.mono ?_; rintro e w10 ⟨rfl, hE10⟩))
      go_ret2
      exact ⟨by rw [HDONE.out]; go_num, hE9.below hE10⟩
    | succ k =>
      obtain rfl : z = (k : Int) := by omega
      clear hz
      have hpw := Lib.hid (power_calls wr w.heap.size b n Bk K k HK.out hE.size (by omega) (fun j hj => hlim.out j (by omega)))
      have hlk := hlim.out k (by omega)
      have hkp0 : kp b n k ≠ 0 := by have := Nat.pow_pos (n := 16 * n * 2 ^ k) (show 0 < b by omega); unfold kp; omega
      have hkK : k < K := by have := HIK.out; omega
      by_cases hge : kp b n k ≤ a
      · obtain ⟨v, hv, hv0⟩ := cmp_ge a (kp b n k) hge
        obtain ⟨q, hq⟩ : ∃ q, a / kp b n k = q := ⟨_, rfl⟩
        obtain ⟨E, hEE⟩ : ∃ E, 16 * n * 2 ^ k = E := ⟨_, rfl⟩
        have hcut := HC.out.cut h2 hge q hq
        rw [hEE] at hcut
        have hNE : N + E ≤ 16 * 31 * 1024 := by have := hcut.len; have := hNL.out; omega
        have HST := Lib.hid hcut
        have o0 : (16 : Int) * (n : Int) * 2 ^ k = (E : Int) := by rw [← hEE]; simp
        have o1 : IntKind.i64.wrap ((16 : Int) * (n : Int) * 2 ^ k) = (E : Int) := by rw [o0, IntKind.wrap_i64]; omega
        have HQ := Lib.hid hq
        have hn31 := hS.n32
        clear hcut HC hEE hq
        go_wp2_with (first
          | (go_at_call 49; refine hpw.out.mono ?_; rintro e w3 ⟨⟨u, rfl, hu3⟩, _, _, hw3⟩; obtain rfl := hw3 hkK; obtain ⟨A3, l3, c3, rfl⟩ := U.sl hu3)
          | (go_at_call 49; refine hpw2.out.mono ?_; rintro e w7 ⟨⟨u, rfl, hu7⟩, _, _, hw7⟩; obtain rfl := hw7 hkK; obtain ⟨A7, l7, c7, rfl⟩ := U.sl hu7; have hdm := divmod_D _ _ _ a (kp b n k) q _ hua5 hu7 (Nat.le_trans hla (by omega)) (Nat.le_trans hlk (by omega)) hkp0 HQ.out rfl)
          | (go_at_call 42; refine (cmp_B _ _ _ _ _ hua hu3 v hv).mono ?_; rintro e w5 ⟨rfl, hE5⟩; have hpw2 := Lib.hid (power_calls w5 w.heap.size b n Bk K k (HK.out.ext hE5) (Nat.le_trans hE.size hE5.size) (by omega) (fun j hj => hlim.out j (by omega))); have hua5 := Un.below hua hE5; have hKp5 := Lib.hid (HK.out.ext hE5); have hSx5 := hSx.ext hE5; have hE05 := hE.below hE5)
          | (go_at_call 36; refine hdm.mono ?_; rintro e w9 ⟨⟨x, y, rfl, hx, hy⟩, hE9⟩; obtain ⟨Ax, lx, cx, rfl⟩ := U.sl hx; obtain ⟨Ay, ly, cy, rfl⟩ := U.sl hy; obtain ⟨s0, s1, s2, s3⟩ := hSx5.ext hE9)
          | (go_at_call 38; refine (piece_calls _ b n p hS).mono ?_; rintro e w11 ⟨rfl, hE11⟩))
        go_roundw
        case rel => exact ⟨k, q, N + E, _, by omega, rfl, rfl, hx.below hE11, by go_num, HST, (hSx5.ext hE9).ext hE11, (hKp5.out.ext hE9).ext hE11, (hE05.below hE9).below hE11⟩
        case measure => simp [intOf]
      · have hv : cmpI (a : Int) (kp b n k : Nat) = -1 := cmpI_lt (by omega)
        have HST := Lib.hid (HC.out.stay (by omega))
        go_wp2_with (first
          | (go_at_call 49; refine hpw.out.mono ?_; rintro e w3 ⟨⟨u, rfl, hu3⟩, _, _, hw3⟩; obtain rfl := hw3 hkK; obtain ⟨A3, l3, c3, rfl⟩ := U.sl hu3)
          | (go_at_call 42; refine (cmp_B _ _ _ _ _ hua hu3 (-1) hv).mono ?_; rintro e w5 ⟨rfl, hE5⟩))
        go_roundw
        case rel => exact ⟨k, a, N, _, by omega, rfl, rfl, hua.below hE5, rfl, HST, hSx.ext hE5, HK.out.ext hE5, hE.below hE5⟩
        case measure => simp [intOf]
end Go.Proofs.YtigdflfhepelaaaGreatDoor
