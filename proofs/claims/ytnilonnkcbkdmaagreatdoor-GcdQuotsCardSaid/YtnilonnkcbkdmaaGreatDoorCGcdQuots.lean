/- GcdQuots, and what it leans on beyond the base. -/
import Derived.Test.YtnilonnkcbkdmaaGreatDoorBai
import Derived.Test.YtnilonnkcbkdmaaGreatDoorBag
import Derived.Test.YtnilonnkcbkdmaaGreatDoorBah
import Derived.Test.YtnilonnkcbkdmaaGreatDoorBak
import Derived.Test.YtnilonnkcbkdmaaGreatDoorBad
import Derived.Test.YtnilonnkcbkdmaaGreatDoorBar
import Derived.Test.YtnilonnkcbkdmaaGreatDoorBas
import Derived.Test.YtnilonnkcbkdmaaGreatDoorBao
import Derived.Test.YtnilonnkcbkdmaaGreatDoorBav
import Derived.Test.YtnilonnkcbkdmaaGreatDoorBbf
import Derived.Test.YtnilonnkcbkdmaaGreatDoorBbb
import Derived.Test.YtnilonnkcbkdmaaGreatDoorBap
import Derived.Test.YtnilonnkcbkdmaaGreatDoorBbk
import Derived.Test.YtnilonnkcbkdmaaGreatDoorBbh
import Derived.Test.YtnilonnkcbkdmaaGreatDoorBbc
import Derived.SevenTiedAt
import Derived.LaidMore
import Derived.Stop.Joined
import Derived.JoinedOf
import Derived.JoinedAt
import Derived.Lib.SmallJoins
import Derived.Laws.IdiomArrays
import Derived.WideKeyPair
import Derived.WideKeyArr2

namespace Go.Proofs.YtnilonnkcbkdmaaGreatDoor
open Go.RowKit
set_option linter.unusedVariables false
set_option maxHeartbeats 400000
set_option maxRecDepth 100000
theorem gp (w : World) (v : Value) (xs : List Nat) (k : Int) (hk0 : 0 ≤ k) (hk1 : k ≤ 1000000000) (h : U w v xs) :
  Calls Tryz.prog 13 #[v, .int .i64 k] w fun e w' => (∃ u, e = .returned u ∧ Un w' u (dG xs k.toNat)) ∧ Below w.heap.size w w' := by
 have h' := h
 obtain ⟨A, c, rfl, ⟨hc, hm⟩, hx, hr⟩ := h
 clear hr
 by_cases hl : (xs.length : Int) ≤ k
 · have hu := aW w _ xs h' (by omega)
   have HT : Hid (xs.take k.toNat = xs) := List.take_of_length_le (by omega)
   have hmin : min (xs.length : Int) k = xs.length := by omega
   go_enter Tryz.func13, Tryz.ntmps13
   go_wp2_with (go_at_call 37; refine hu.mono ?_; rintro e w' ⟨⟨z, rfl, hz⟩, hB⟩)
   go_ret
   exact ⟨⟨_, rfl, by rw [Un, dG, HT.out]; exact hz⟩, hB⟩
 · obtain ⟨k, rfl⟩ := Int.eq_ofNat_of_zero_le hk0
   have hu := aW w _ _ (h'.take (k := k) (c' := c) (by omega) (by omega)) (by rw [List.length_take]; omega)
   have hmin : min (xs.length : Int) (k : Int) = k := by omega
   go_enter Tryz.func13, Tryz.ntmps13
   go_wp2_with (go_at_call 37; refine hu.mono ?_; rintro e w' ⟨⟨z, rfl, hz⟩, hB⟩)
   go_ret
   exact ⟨⟨_, rfl, by rw [Un, dG, Int.toNat_natCast]; exact hz⟩, hB⟩
end Go.Proofs.YtnilonnkcbkdmaaGreatDoor
namespace Go.Proofs.YtnilonnkcbkdmaaGreatDoor
open Go.RowKit
set_option linter.unusedVariables false
theorem dR (w : World) (v : Value) (xs : List Nat) (k : Int) (h : U w v xs) (hk0 : 0 ≤ k) (hk1 : k ≤ 1000000000) (n : Nat) (hn : dG xs k.toNat = n) :
  Calls Tryz.prog 13 #[v, .int .i64 k] w fun e w' => ∃ u, e = .returned u ∧ Un w' u n ∧ Ext w w' := by
 subst hn
 exact (gp w v xs k hk0 hk1 h).mono fun e w' ⟨⟨u, he, hu⟩, hb⟩ => ⟨u, he, hu, hb⟩
end Go.Proofs.YtnilonnkcbkdmaaGreatDoor
namespace Go.Proofs.YtnilonnkcbkdmaaGreatDoor
open Go.ChangeShapes Go.WideShapes Go.ChangeAt Go.RowKit
set_option linter.unusedVariables false
set_option maxRecDepth 100000
theorem laidOut : laidOutB Tryz.prog = true := by kernel_rfl
theorem jK : Tryz.prog.cellsOf 43 = 1 := by kernel_rfl
abbrev gQ : List (String × DataW Unit) := [("ziggurat/ntt.fields", Rows.laid_ziggurat_ntt_fields)]
theorem jf (os : Os) (args : Array Value) : laidMetH Tryz.prog gQ ((World.doorLaid Tryz.prog 400 os).forCall (fun _ _ => 0) ⟨#[], args, []⟩).memory :=
 laidMetH_of_parts3 (fuel := 8) (laidMet_of_run' 8 (by kernel_rfl) (by kernel_rfl)) (by kernel_rfl) (by kernel_rfl)
theorem bP {H : Type} {enc : TypeId × Value → H} {W W' : World} {sp : Nat → Bool} (hB : Ext W W') : ∀ {ts : List TypeId} {vs : List Value} {ds : List (DataW H)} {ps : List MemPlace},
  (∀ t ∈ ts, Tryz.prog.readableRec t = true ∧ t < Tryz.prog.types.size) → DataW.TrodAll enc Tryz.prog W 0 (fun _ => true) true ts vs ds ps → (∀ p ∈ ps, p.block < W.heap.size) → (∀ p ∈ ps, sp p.block = true) → DataW.TrodAll enc Tryz.prog W' 0 sp true ts vs ds ps
 | [], [], [], _, _, h, _, _ => h
 | t :: _, _ :: _, _ :: _, _, hT, ⟨p, q, h1, h2, e⟩, hlt, hs => ⟨p, q,
  WideElems.Trod_stays laidOut (hT t (List.mem_cons_self ..)).1 (hT t (List.mem_cons_self ..)).2 h1 (fun x hx => Below.same hB (hlt x (by rw [e]; exact List.mem_append_left _ hx))) (fun x hx => hs x (by rw [e]; exact List.mem_append_left _ hx)),
  bP hB (fun t ht => hT t (List.mem_cons_of_mem _ ht)) h2 (fun x hx => hlt x (by rw [e]; exact List.mem_append_right _ hx)) (fun x hx => hs x (by rw [e]; exact List.mem_append_right _ hx)), e⟩
theorem jg {H : Type} {enc : TypeId × Value → H} {f : Func} {s : ChangeSpec} {apart fresh handsOn again : Bool} {W W' : World} {args : Array Value} {ds gs : List (DataW H)} {before : List MemPlace}
  (hW : DataW.Whole enc Tryz.prog f.params.toList s.vars apart W args.toList ds gs before) (hv : s.vars = []) (hT : ∀ t ∈ f.params.toList, Tryz.prog.readableRec t = true ∧ t < Tryz.prog.types.size)
  (hres : f.resultTypes = #[4]) (hfn : (s.fn H (ds ++ gs)).results = [.lit (.bool true)]) (hfa : (s.fn H (ds ++ gs)).args = ds) (P8 : (s.fn H (ds ++ gs)).vars = []) (hB : Ext W W') :
  s.post enc Tryz.prog f apart fresh handsOn again W args (.bool true) W' := by
 have hlt : ∀ p ∈ before, p.block < W.heap.size := fun p hp => hW.lt p hp
 have hold : ∀ p ∈ before, (fun b => decide (b < W.heap.size)) p.block = true := fun p hp => by simpa using hlt p hp
 have hres' : ∀ (b : Nat) (sp : Nat → Bool) (hd : Bool), DataW.TrodAll enc Tryz.prog W' b sp hd f.resultTypes.toList ((Value.bool true).resultList f.resultTypes.size) (s.fn H (ds ++ gs)).results [] := by
  intro b sp hd
  rw [hres, hfn]
  exact trodAll_mk1 (shut_bool Tryz.underlying4 _)
 have hW2 := hW
 obtain ⟨p, q, hA, hV, hpq, hz, hn⟩ := hW
 rw [hv] at hV
 obtain ⟨_, rfl⟩ := trodVars_none hV
 rw [List.append_nil] at hpq
 subst hpq
 have hargs : ∀ sp : Nat → Bool, (∀ p' ∈ before, sp p'.block = true) → DataW.TrodAll enc Tryz.prog W' 0 sp true f.params.toList args.toList (s.fn H (ds ++ gs)).args before := fun sp hs => by
  rw [hfa]; exact bP hB hT hA hlt hs
 have hvars : ∀ sp : Nat → Bool, DataW.TrodVars enc Tryz.prog W' sp s.vars (s.fn H (ds ++ gs)).vars [] := fun sp => by rw [hv, P8]; exact rfl
 refine ⟨ds, gs, before, [], before, [], hW2, hres' _ _ _, hargs _ hold, hvars _, World.keptBut_mono (fun p hp => ⟨hp, ?_⟩) (Below.frame hB (· ∈ before)), fun _ => ?_⟩
 · simpa using hp
 · refine ⟨ok_one hres rfl (okWide_bool_mk Tryz.underlying4 _), _, _, ([] ++ before) ++ [], ⟨[] ++ before, [], trodAll_append (hargs _ (fun _ _ => rfl)) (hres' _ _ _), hvars _, rfl, ?_, ?_⟩, ?_⟩
   · intro b off hp
     have hin : MemPlace.cell b off ∈ before := by simpa using hp
     rw [Below.frozen hB (hlt _ hin)]
     exact hz b off hin
   · intro ha
     have := hn ha
     simpa using this
   · intro p hp _
     simpa using hp
theorem dS {H : Type} {enc : TypeId × Value → H} {W : World} {base : Nat} {v : Value} {d : DataW H} {ps : List MemPlace} (hval : Value.okWide Tryz.prog W .any base 22 v) (h : DataW.Trod enc Tryz.prog W 0 (fun _ => true) true 22 v d ps)
  (hlt : ∀ p ∈ ps, p.block < W.heap.size) : ∃ xs : List Nat, U W v xs := by
 obtain ⟨a0, len, cap, rfl⟩ := okWide_slice Tryz.underlying22 hval
 obtain ⟨fuel, hf⟩ := h
 rcases open_ints Tryz.underlying22 Tryz.underlying43 jK hf with ⟨hcs, hx⟩ | ⟨a, len', cap', zs, hcs, _, hl, hm, hz, hx, hcell, hwz⟩
 · simp [Value.cells] at hcs
   obtain ⟨rfl, rfl, rfl⟩ := hcs
   exact ⟨[], U.mE _ _ _⟩
 · simp [Value.cells] at hcs
   obtain ⟨rfl, rfl, rfl⟩ := hcs
   simp only [if_true] at hz
   have hlen : ((zs.take len).map Int.toNat).length = len := by simp; omega
   have hb : ∀ z ∈ zs, 0 ≤ z ∧ z < 4294967296 := fun z hzz => by have := bounds_u32 (hwz z hzz); omega
   refine ⟨(zs.take len).map Int.toNat, some a, cap, by rw [hlen], ⟨by rw [hlen]; exact hl, by rw [hlen]; unfold maxLen at hm; omega⟩, ?_, fun h0 => ⟨a, rfl, ?_, fun j hj => ?_⟩⟩
   · intro x hx'
     obtain ⟨z, hz1, rfl⟩ := List.mem_map.1 hx'
     have := hb z (List.mem_of_mem_take hz1)
     omega
   · rw [hlen] at h0
     have hc := hcell 0 (by omega)
     rw [fJ] at hc
     unfold World.cell? at hc
     rcases Nat.lt_or_ge a.block W.heap.size with h | h
     · exact h
     · rw [Array.getElem?_eq_none h] at hc; cases hc
   · rw [hlen] at hj
     have hjz : j < zs.length := by omega
     have e : lb ((zs.take len).map Int.toNat) j = (zs.getD j 0).toNat := by
      simp [lb, hj, hjz]
     rw [hcell j hjz, e]
     have hmem : zs.getD j 0 ∈ zs := by simp [hjz]
     have := hb _ hmem
     rw [show (((zs.getD j 0).toNat : Nat) : Int) = zs.getD j 0 by omega]
end Go.Proofs.YtnilonnkcbkdmaaGreatDoor
namespace Go.Proofs.YtnilonnkcbkdmaaGreatDoor
open Go.ChangeShapes Go.WideShapes Go.ChangeAt Go.RowKit
set_option linter.unusedVariables false
set_option maxRecDepth 100000
set_option maxHeartbeats 400000
theorem iE (xs : List Nat) (k : Nat) (hx : ∀ x ∈ xs, x < 4294967296) : Ltl (dG xs k) k := by
 have h := lM (xs.take k) (fun x h => hx x (List.mem_of_mem_take h))
 refine Nat.lt_of_lt_of_le h (Nat.pow_le_pow_right (by decide) ?_)
 rw [List.length_take]; omega
end Go.Proofs.YtnilonnkcbkdmaaGreatDoor
namespace Go.Proofs.YtnilonnkcbkdmaaGreatDoor
open Go.RowKit
set_option linter.unusedVariables false
set_option maxHeartbeats 400000
set_option maxRecDepth 100000 in
set_option maxHeartbeats 8000000 in
theorem gX (w : World) (va vb : Value) (dL bs : List Nat) (na nb : Nat) (ha : U w va dL) (hb : U w vb bs) (hna : dL.length = na) (hnb : bs.length = nb) (hn1 : na ≤ 1000) (hn2 : nb ≤ 1000) :
  Calls Tryz.prog 68 #[va, vb] w fun e w' => (∃ u, e = .returned u ∧ Un w' u (val dL * val bs)) ∧ Ext w w' := by
 obtain ⟨A, ca, rfl, ⟨hca, hma⟩, hxl, Lv⟩ := id ha
 obtain ⟨A2, cb, rfl, ⟨hcb, hmb⟩, hyl, Lx⟩ := id hb
 have HL : Hid (dL.length = na ∧ bs.length = nb) := ⟨hna, hnb⟩
 have Zb := Lib.hid (fun k => eT bs k)
 have Zc := Lib.hid (fun k => eT dL k)
 have HT2 : Hid (bs.take nb = bs ∧ dL.take na = dL) := ⟨by rw [← hnb]; exact List.take_length, by rw [← hna]; exact List.take_length⟩
 rw [hna] at hca hma Lv ⊢
 rw [hnb] at hcb hmb Lx ⊢
 obtain ⟨n, hnn⟩ : ∃ n, na + nb = n := ⟨_, rfl⟩
 have hni : (na : Int) + (nb : Int) = (n : Int) := by omega
 obtain ⟨i0, hi, hz0, hz1, hz2⟩ := info_parts iT
 obtain ⟨B, hB⟩ : ∃ B, w.heap.size = B := ⟨_, rfl⟩
 have pW := Lib.hid hB
 clear ha hb hna hnb
 go_enter Tryz.func68, Tryz.ntmps68
 go_wp2_with (at_make; refine wpList_make_full _ rfl _ _ 22 rfl w.heap.size 43 i0 (.int .u32 0) 1 Tryz.underlying22 hi hz0 hz1 _ _ _ _ n rfl rfl (by omega) (by omega) (by rw [hz2]; omega) (by unfold maxLen; omega) (Nat.le_refl _) ?_; intro w1 hown hgrow)
 have ho0 : Own w1 w.heap.size (.slice (some ⟨w.heap.size, 0, none⟩) n n) (List.replicate n 0) := by
  have := Own.zeros hown
  rwa [List.length_replicate] at this
 have hE0 : Ext w w1 := Below.grown (Ext.refl w) hgrow (Nat.le_refl _) (fun _ h => by cases h)
 rw [hB] at ho0
 clear hown hgrow hi hz0 hz1 hz2 i0
 have hS0 : Hid (Ku bs dL n 0 (List.replicate n 0)) := ⟨by simp, fun x hx => by simp at hx; omega, by simp [bM, val], fun m _ => iR _ _⟩
 go_wp2
 go_loopw [6] (fun t wr => ∃ (i : Nat) (o : List Nat), i ≤ na ∧ t = .int .i64 (i : Nat) ∧ Hid (Ku bs dL n i o) ∧ Own wr B (.slice (some ⟨B, 0, none⟩) n n) o ∧ Ext w wr) (fun t _ => na - (intOf t).toNat)
 case atStart => exact ⟨0, _, Nat.zero_le _, rfl, hS0, ho0, hE0⟩
 case round =>
  clear hS0 ho0 hE0
  obtain ⟨i, o, hib, rfl, HO, hown, hE⟩ := hrel
  by_cases hlt : i < na
  · obtain ⟨ad, rfl, hb1, hcell1⟩ := Lv (by omega)
    have hyb := aQ hxl i
    have hty := Zc.out i (by rw [HL.out.1]; exact hlt)
    obtain ⟨y, wN⟩ : ∃ y, lb dL i = y := ⟨_, rfl⟩
    rw [wN] at hyb hty
    have HY := Lib.hid wN
    have LA : Hid (P9 o n i (val o + LB ^ i * (val (bs.take 0) * y)) 0 o 0) := ⟨HO.out.len, HO.out.lt, by decide, by simp [val], fun m _ => rfl⟩
    have vB : Hid (val (dL.take (i + 1)) = val (dL.take i) + LB ^ i * y) := hty
    have hno : Hid (lb o (i + nb) = 0) := HO.out.out _ (by rw [HL.out.2]; exact Nat.le_refl _)
    clear wN hty
    go_wp2
    go_loopw [8, 7] (fun t s wx => ∃ (j : Nat) (o2 : List Nat) (cy : Nat), j ≤ nb ∧ t = .int .i64 (j : Nat) ∧ s = .int .u64 (cy : Nat) ∧ Hid (P9 o n i (val o + LB ^ i * (val (bs.take j) * y)) j o2 cy) ∧ Own wx B (.slice (some ⟨B, 0, none⟩) n n) o2 ∧ Ext w wx) (fun t _ _ => nb - (intOf t).toNat)
    case atStart => exact ⟨0, o, 0, Nat.zero_le _, rfl, rfl, LA, hown, hE⟩
    case round =>
     clear LA hown hE
     obtain ⟨j, o2, cy, hj, rfl, rfl, HW, hown, hE⟩ := hrel
     by_cases hjt : j < nb
     · obtain ⟨IB, rfl, hb2, hcell2⟩ := Lx (by omega)
       have hc0 := (hE.cell (p := ad.add i) (by rw [aM]; exact hb1)).trans (hcell1 i hlt)
       rw [HY.out] at hc0
       have hc1 := (hE.cell (p := IB.add j) (by rw [aM]; exact hb2)).trans (hcell2 j hjt)
       have hxb := aQ hyl j
       have htk := Zb.out j (by rw [HL.out.2]; exact hjt)
       have hcz := hown.rd.2 (i + j) (by rw [HW.out.len]; omega)
       have hf := hown.frozen' (i + j)
       have hzb := aQ HW.out.lt (i + j)
       have hcy := HW.out.BC
       obtain ⟨x, wM⟩ : ∃ x, lb bs j = x := ⟨_, rfl⟩
       rw [wM] at hc1 hxb htk
       obtain ⟨z, hzz⟩ : ∃ z, lb o2 (i + j) = z := ⟨_, rfl⟩
       rw [hzz] at hcz hzb
       obtain ⟨t, ht⟩ : ∃ t, x * y = t := ⟨_, rfl⟩
       have ht1 : t ≤ 18446744065119617025 := by rw [← ht]; exact IC hxb hyb
       have hti : (y : Int) * (x : Int) = (t : Int) := by rw [← ht, Int.natCast_mul, Int.mul_comm]
       obtain ⟨u, hu⟩ : ∃ u, cy + (t + z) = u := ⟨_, rfl⟩
       obtain ⟨s, hs⟩ : ∃ s, u % 4294967296 = s := ⟨_, rfl⟩
       obtain ⟨d, hd⟩ : ∃ d, u / 4294967296 = d := ⟨_, rfl⟩
       obtain ⟨hm, hsb, hdb, hub, htz⟩ := pX t z cy s d u ht1 hzb hcy hu hs hd
       have hst := HW.out.step (by omega) t s d (by rw [hzz]; exact hm) hsb hdb
       rw [Nat.add_assoc (val o), Nat.pow_add, Nat.mul_assoc, ← Nat.mul_add, ← ht, ← Nat.mul_assoc, ← Nat.add_mul, ← htk] at hst
       have HST := Lib.hid hst
       have hown2 := hown.set' (i + j) s
       have hE2 := hE.setCell (p := ⟨B, i + j, none⟩) (by rw [pW.out]; exact Nat.le_refl _) (.int .u32 (s : Nat))
       have q1 : IntKind.u64.wrap (t : Int) = (t : Int) := by rw [IntKind.wrap_u64]; omega
       have q2 : IntKind.u64.wrap ((t : Int) + (z : Int)) = (t : Int) + (z : Int) := by rw [IntKind.wrap_u64]; omega
       have q3 : (t : Int) + (z : Int) + (cy : Int) = (u : Int) := by omega
       have q4 : IntKind.u64.wrap (u : Int) = (u : Int) := by rw [IntKind.wrap_u64]; omega
       have q5 : IntKind.u32.wrap (u : Int) = (s : Int) := by rw [IntKind.wrap_u32]; omega
       have q6 : (u : Int) % 4294967296 = (s : Int) := by omega
       have q7 : (u : Int) / 4294967296 = (d : Int) := by omega
       have q8 : IntKind.u64.wrap (x : Int) = (x : Int) := by rw [IntKind.wrap_u64]; omega
       have q9 : IntKind.u64.wrap (y : Int) = (y : Int) := by rw [IntKind.wrap_u64]; omega
       have q10 : IntKind.u64.wrap (z : Int) = (z : Int) := by rw [IntKind.wrap_u64]; omega
       have q11 : (u : Int) % 18446744073709551616 = (u : Int) := by omega
       have q12 : (t : Int) % 18446744073709551616 = (t : Int) := by omega
       have q13 : ((t : Int) + (z : Int)) % 18446744073709551616 = (t : Int) + (z : Int) := by omega
       have q14 : IntKind.i64.wrap ((i : Int) + (j : Int)) = (i : Int) + (j : Int) := IntWalk.i64_in _ (by omega)
       have q15 : (0 : Int) ≤ (i : Int) + (j : Int) := by omega
       have q16 : (i : Int) + (j : Int) < (n : Int) := by omega
       have TN : ((i : Int) + (j : Int)).toNat = i + j := by omega
       have q18 : (0 : Int) ≤ (i : Int) := by omega
       have q19 : (i : Int) < (na : Int) := by omega
       have q20 : (0 : Int) ≤ (j : Int) := by omega
       have q21 : (j : Int) < (nb : Int) := by omega
       clear hst htk wM hzz ht hu hs hd hm HW hxb hzb ht1 hcy hown2 hE2
       have HOWN := Lib.hid hown
       have HEE := Lib.hid hE
       clear hown hE
       go_wp2_with (fail)
       go_quiet (fail)
       have hown2 := (HOWN.out.ext (eU wr nq)).set' (i + j) s
       have hE2 := (HEE.out.below (eU wr nq)).setCell (p := ⟨B, i + j, none⟩) (by rw [pW.out]; exact Nat.le_refl _) (.int .u32 (s : Nat))
       go_wp2
       go_roundw
       case rel => exact ⟨j + 1, _, d, by omega, by go_num, rfl, HST, hown2, hE2⟩
       case measure => simp [intOf]; omega
     · obtain rfl : j = nb := by omega
       have hcz := hown.rd.2 (i + j) (by rw [HW.out.len]; omega)
       have hf := hown.frozen' (i + j)
       have hl0 : lb o2 (i + j) = 0 := by rw [HW.out.out _ (Nat.le_refl _)]; exact hno.out
       have hws := oV o2 (i + j) cy (by rw [HW.out.len]; omega)
       rw [hl0, Nat.mul_zero, Nat.add_zero, HW.out.val, HT2.out.1] at hws
       have sP : (Value.int .u32 (lb o2 (i + j) : Nat)) = .int .u32 0 := by rw [hl0]; rfl
       rw [sP] at hcz
       have vC := HW.out.BC
       have q5 : IntKind.u32.wrap (cy : Int) = (cy : Int) := by rw [IntKind.wrap_u32]; omega
       have q6 : (cy : Int) % 4294967296 = (cy : Int) := by omega
       have hown2 := hown.set' (i + j) cy
       have hE2 := hE.setCell (p := ⟨B, i + j, none⟩) (by rw [pW.out]; exact Nat.le_refl _) (.int .u32 (cy : Nat))
       have HST : Hid (Ku bs dL n (i + 1) (o2.set (i + j) cy)) := by
        refine ⟨by rw [List.length_set]; exact HW.out.len, gm HW.out.lt vC, ?_, fun m hm => ?_⟩
        · rw [hws, vB.out, Nat.mul_add, ← HO.out.val, Nat.mul_left_comm]
        · rw [HL.out.2] at hm
          rw [dD _ (by omega), HW.out.out _ (by omega)]
          exact HO.out.out m (by rw [HL.out.2]; omega)
       have g12 : (i : Int) + (j : Int) < (n : Int) := by omega
       have g13 : i + j < n := by omega
       clear hl0 hws sP hown hE HW vC vB hno
       go_wp2
       go_roundw
       case rel => exact ⟨i + 1, _, by omega, by go_num, HST, hown2, hE2⟩
       case measure => simp [intOf]; omega
  · obtain rfl : i = na := by omega
    have hu := hown.lW HO.out.lt (by rw [HO.out.len]; omega)
    have hvv := HO.out.val
    rw [HT2.out.2, Nat.mul_comm] at hvv
    have HV := Lib.hid hvv
    have hol := HO.out.len
    clear hown HO hvv
    go_wp2_with (fail)
    refine (aW _ _ _ hu (by omega)).mono ?_
    rintro e w2 ⟨⟨u, rfl, hu2⟩, hB2⟩
    rw [HV.out] at hu2
    have hE2 := hE.below hB2
    have HF : Hid (∃ u', Ending.returned u = .returned u' ∧ Un w2 u' (val dL * val bs)) := ⟨_, rfl, hu2⟩
    clear hu2 hu hB2
    go_wp2
    go_ret
    exact ⟨HF.out, hE2⟩
end Go.Proofs.YtnilonnkcbkdmaaGreatDoor
namespace Go.Proofs.YtnilonnkcbkdmaaGreatDoor
open Go.RowKit
set_option linter.unusedVariables false
set_option maxHeartbeats 400000
theorem jJ (w : World) (va vb : Value) (n m k : Nat) (ha : Un w va n) (hb : Un w vb m) (hn : (limbs n).length ≤ 398) (hm : (limbs m).length ≤ 398) (hk : n * m = k) :
  Calls Tryz.prog 68 #[va, vb] w fun e w' => ∃ u, e = .returned u ∧ Un w' u k ∧ Ext w w' := by
 refine (gX w va vb _ _ _ _ ha hb rfl rfl (by omega) (by omega)).mono ?_
 rw [aG, aG, hk]
 rintro e w' ⟨⟨u, h1, h2⟩, h3⟩
 exact ⟨u, h1, h2, h3⟩
end Go.Proofs.YtnilonnkcbkdmaaGreatDoor
namespace Go.Proofs.YtnilonnkcbkdmaaGreatDoor
open Go.RowKit
set_option linter.unusedVariables false
set_option maxHeartbeats 400000
attribute [local go_sem ↓] dH
attribute [local go_sem] aT
theorem aY {w0 w : World} (hB : Below w0.heap.size w0 w) {v : Value} {o : List Nat} (hown : Own w w0.heap.size v o) (z : Int) (x : Nat) (hz : z = (x : Int)) (hx : x < 4294967296) (hlen : o.length + 1 ≤ 35184372088832) :
  ∃ v' w', (Builtin.append_ #[22, 22] 22 #[v, .slice (some ⟨w.heap.size, 0, none⟩) 1 1]).run Tryz.prog (w.alloc (.cells #[.int .u32 z] 43)) = .ok v' w' ∧ Own w' w0.heap.size v' (o ++ [x]) ∧ Below w0.heap.size w0 w' := by
 subst hz
 have hu : U (w.alloc (.cells #[.int .u32 (x : Int)] 43)) (.slice (some ⟨w.heap.size, 0, none⟩) 1 1) [x] := xJ w [x] (by simpa using hx) (by simp)
 have hB1 := hB.alloc hB.size (.cells #[.int .u32 (x : Int)] 43)
 obtain ⟨v', w', hrun, ho, hg⟩ := bE _ w0.heap.size _ o (World.ownsRow.alloc hown _) _ _ hu (by simpa using hlen) hB1.size
 exact ⟨v', w', hrun, ho, hB1.grown hg hB1.size (fun j e => (World.ownsRow.lt hown j e).1)⟩
set_option maxRecDepth 100000 in
theorem nU (w : World) (v u : Value) (xs ys : List Nat) (h : U w v xs) (g : U w u ys) (hl : xs.length ≤ 100000000) (hl2 : ys.length ≤ 100000000) :
  Calls Tryz.prog 30 #[v, u] w fun e w' => (∃ z, e = .returned z ∧ U w' z (limbs (val xs + val ys))) ∧ Below w.heap.size w w' := by
 obtain ⟨A, c, rfl, ⟨hc, hm⟩, hx, hr⟩ := id h
 obtain ⟨A2, c2, rfl, ⟨hc2, hm2⟩, hx2, hr2⟩ := id g
 clear hr hr2
 go_enter Tryz.func30, Tryz.ntmps30
 go_wp2_with (fail)
 have hown0 : Own (w.alloc (.cells #[] 43)) w.heap.size (.slice (some ⟨w.heap.size, 0, none⟩) 0 0) [] := World.ownsRow_lit w #[] 0 (Nat.le_refl _) (Nat.zero_le _) rfl
 have hB0 : Below w.heap.size w (w.alloc (.cells #[] 43)) := (Below.refl _ _).alloc (Nat.le_refl _) _
 go_loopw [5, 6, 7] (fun s cv i wr => ∃ (k cy : Nat) (o : List Nat), k ≤ max xs.length ys.length + 1 ∧ i = .int .i64 k ∧ cv = .int .u64 cy ∧ Hid (iW xs ys k o cy) ∧ Own wr w.heap.size s o ∧ Below w.heap.size w wr) (fun _ _ i _ => max xs.length ys.length + 2 - (intOf i).toNat)
 case atStart => exact ⟨0, 0, [], Nat.zero_le _, rfl, rfl, iW.start xs ys, hown0, hB0⟩
 case round =>
  clear hown0 hB0
  obtain ⟨k, cy, o, hk, rfl, rfl, HO, hown, hB⟩ := hrel
  by_cases hd1 : k ≤ xs.length
  · have h1 := aQ hx k
    have h2 := aQ hx2 k
    have h3 := HO.out.carry
    have hlen := HO.out.len
    obtain ⟨x1, hx1⟩ : ∃ x1, (lb xs k + lb ys k + cy) % 4294967296 = x1 := ⟨_, rfl⟩
    obtain ⟨c1, hc1⟩ : ∃ c1, (lb xs k + lb ys k + cy) / 4294967296 = c1 := ⟨_, rfl⟩
    have kL : Hid (iW xs ys (k + 1) (o ++ [x1]) c1) := by rw [Hid, ← hx1, ← hc1]; exact HO.out.step hx hx2
    obtain ⟨v', w', hrun, hown', hB'⟩ := aY hB hown ((((lb xs k : Nat) : Int) + ((lb ys k : Nat) : Int) + (cy : Int)) % 4294967296) x1 (by rw [← hx1]; omega) (by rw [← hx1]; exact Nat.mod_lt _ (by decide)) (by omega)
    obtain ⟨t1, t2, t3⟩ := aU hrun
    have hk2 : k + 1 ≤ max xs.length ys.length + 1 := by omega
    have kM : Hid ((((lb xs k : Nat) : Int) + ((lb ys k : Nat) : Int) + (cy : Int)) / 4294967296 = (c1 : Int)) := by rw [Hid, ← hc1]; omega
    clear hrun hx1 hc1 hlen
    go_wp2_with (fail)
    refine (aC _ _ xs _ k rfl (h.below hB)).mono ?_
    rintro e w' ⟨rfl, rfl⟩
    go_wp2_with (fail)
    refine (aC _ _ ys _ k rfl (g.below hB)).mono ?_
    rintro e w' ⟨rfl, rfl⟩
    go_wp2_with (fail)
    go_roundw
    case rel => exact ⟨k + 1, c1, _, hk2, by go_num, by rw [kM.out], kL, hown', hB'⟩
    case measure => simp [intOf]; omega
  · by_cases hd2 : k ≤ ys.length
    · have h1 := aQ hx k
      have h2 := aQ hx2 k
      have h3 := HO.out.carry
      have hlen := HO.out.len
      obtain ⟨x1, hx1⟩ : ∃ x1, (lb xs k + lb ys k + cy) % 4294967296 = x1 := ⟨_, rfl⟩
      obtain ⟨c1, hc1⟩ : ∃ c1, (lb xs k + lb ys k + cy) / 4294967296 = c1 := ⟨_, rfl⟩
      have kL : Hid (iW xs ys (k + 1) (o ++ [x1]) c1) := by rw [Hid, ← hx1, ← hc1]; exact HO.out.step hx hx2
      obtain ⟨v', w', hrun, hown', hB'⟩ := aY hB hown ((((lb xs k : Nat) : Int) + ((lb ys k : Nat) : Int) + (cy : Int)) % 4294967296) x1 (by rw [← hx1]; omega) (by rw [← hx1]; exact Nat.mod_lt _ (by decide)) (by omega)
      obtain ⟨t1, t2, t3⟩ := aU hrun
      have hk2 : k + 1 ≤ max xs.length ys.length + 1 := by omega
      have kM : Hid ((((lb xs k : Nat) : Int) + ((lb ys k : Nat) : Int) + (cy : Int)) / 4294967296 = (c1 : Int)) := by rw [Hid, ← hc1]; omega
      clear hrun hx1 hc1 hlen
      go_wp2_with (fail)
      refine (aC _ _ xs _ k rfl (h.below hB)).mono ?_
      rintro e w' ⟨rfl, rfl⟩
      go_wp2_with (fail)
      refine (aC _ _ ys _ k rfl (g.below hB)).mono ?_
      rintro e w' ⟨rfl, rfl⟩
      go_wp2_with (fail)
      go_roundw
      case rel => exact ⟨k + 1, c1, _, hk2, by go_num, by rw [kM.out], kL, hown', hB'⟩
      case measure => simp [intOf]; omega
    · have hlen := HO.out.len
      obtain ⟨j, rfl⟩ : ∃ j, k = j + 1 := ⟨k - 1, by omega⟩
      have HV : Hid (val o = val xs + val ys) := HO.out.done hx hx2 (by omega) (by omega)
      have hu := hown.lW HO.out.lt (by omega)
      have hol : o.length ≤ 1000000000 := by omega
      clear hlen
      go_wp2_with (fail)
      refine (aW _ _ _ hu hol).mono ?_
      rintro e w' ⟨⟨z, rfl, hz⟩, hB2⟩
      rw [HV.out] at hz
      replace hB := Below.trans hB (Below.mono hB2 hB.size)
      go_wp2
      go_ret
      exact ⟨⟨_, rfl, hz⟩, hB⟩
end Go.Proofs.YtnilonnkcbkdmaaGreatDoor
namespace Go.Proofs.YtnilonnkcbkdmaaGreatDoor
open Go.RowKit
set_option linter.unusedVariables false
theorem wm (w : World) (v u : Value) (n m : Nat) (h : Un w v n) (g : Un w u m) (hm : (limbs n).length ≤ 100000000) (hm2 : (limbs m).length ≤ 100000000) (s : Nat) (hs : n + m = s) :
  Calls Tryz.prog 30 #[v, u] w fun e w' => ∃ z, e = .returned z ∧ Un w' z s ∧ Ext w w' := by
 subst hs
 have := nU w v u _ _ h g hm hm2
 rw [aG, aG] at this
 exact this.mono fun e w' ⟨⟨z, he, hz⟩, hb⟩ => ⟨z, he, hz, hb⟩
end Go.Proofs.YtnilonnkcbkdmaaGreatDoor
namespace Go.Proofs.YtnilonnkcbkdmaaGreatDoor
open Go.RowKit
set_option linter.unusedVariables false
set_option maxHeartbeats 400000
theorem kP (w : World) (va vb : Value) (n m k : Nat) (ha : Un w va n) (hb : Un w vb m) (hn : (limbs n).length ≤ 398) (hm : (limbs m).length ≤ 398) (hk : n * m = k) :
  Calls Tryz.prog 28 #[va, vb] w fun e w' => ∃ u, e = .returned u ∧ Un w' u k ∧ Ext w w' := by
 have h0 := Lib.hid (jJ w va vb n m k ha hb hn hm hk)
 clear ha hb hn hm hk
 go_enter Tryz.func28, Tryz.ntmps28
 go_wp2_with (fail)
 refine h0.out.mono ?_
 rintro e w1 ⟨u, rfl, hu, hB⟩
 have HF : Hid (∃ u', Ending.returned u = .returned u' ∧ Un w1 u' k ∧ Ext w w1) := ⟨_, rfl, hu, hB⟩
 clear hu hB h0
 go_wp2
 go_ret
 exact HF.out
end Go.Proofs.YtnilonnkcbkdmaaGreatDoor
namespace Go.Proofs.YtnilonnkcbkdmaaGreatDoor
open Go.RowKit
set_option linter.unusedVariables false
set_option maxHeartbeats 400000
theorem akU {x y : Operand} {a b v : Bool} (h : (a == b) = v) (X : World) : (do eqGuard .eql 4 x y (.bool a) (.bool b); binOp .eql 4 (.bool a) (.bool b) : Sem Value).run Tryz.prog X = .ok (.bool v) X := by
 subst h; go_simp
section
variable {L : List Oper} {S : World → Prop} {K : List (Nat × Value) → World → Prop} {k : Bool} {i m d : Nat} {o : Oper} {x : Operand} {r : List (Bool × Nat × Nat)} {l : List (Nat × Value)} {w : World}
end
end Go.Proofs.YtnilonnkcbkdmaaGreatDoor
namespace Go.Proofs.YtnilonnkcbkdmaaGreatDoor
open Go.RowKit
set_option linter.unusedVariables false
set_option maxHeartbeats 400000
theorem aoW (a b : Nat) : ∀ k ∈ quo a b, k ≤ max a b := by
 induction b using Nat.strongRecOn generalizing a with
 | ind b ih =>
  by_cases h : b = 0
  · subst h; simp [eY]
  · rw [fH h]
    have hm := Nat.mod_lt a (Nat.pos_of_ne_zero h)
    intro k hk
    rcases List.mem_cons.1 hk with rfl | hk
    · have := Nat.div_le_self a b
      omega
    · have := ih (a % b) hm b k hk
      omega
end Go.Proofs.YtnilonnkcbkdmaaGreatDoor
namespace Go.Proofs.YtnilonnkcbkdmaaGreatDoor
open Go.RowKit
set_option linter.unusedVariables false
set_option linter.unusedSimpArgs false
set_option maxHeartbeats 400000
theorem Qs.get {w : World} : ∀ {xs : List Value} {qs : List Nat} (i : Nat), Qs w xs qs → (hi : i < qs.length) → ∃ v, xs[i]? = some v ∧ Un w v qs[i]
 | _ :: _, _ :: _, 0, h, _ => ⟨_, rfl, h.1⟩
 | _ :: _, _ :: _, i + 1, h, hi => Qs.get i h.2 (Nat.lt_of_succ_lt_succ hi)
 | [], [], _, _, hi => absurd hi (Nat.not_lt_zero _)
 | [], _ :: _, _, h, _ => h.elim
 | _ :: _, [], _, h, _ => h.elim
end Go.Proofs.YtnilonnkcbkdmaaGreatDoor
namespace Go.Proofs.YtnilonnkcbkdmaaGreatDoor
open Go.RowKit
set_option linter.unusedVariables false
set_option linter.unusedSimpArgs false
set_option maxHeartbeats 400000
namespace EK
theorem qL (u : Array Value) (X : World) : (callFunc 28 u).run Tryz.prog X = .ok (.enter 28 u) X := Pl.enters Tryz.func28 (by kernel_rfl) rfl u X
end EK
open EK
end Go.Proofs.YtnilonnkcbkdmaaGreatDoor
namespace Go.Proofs.YtnilonnkcbkdmaaGreatDoor
open Go.RowKit
set_option linter.unusedVariables false
set_option maxHeartbeats 400000
theorem Jv (w : World) (va vb : Value) (a b : Nat) (ha : Un w va a) (hb : Un w vb b) (hla : Sn a 90) (hlb : Sn b 90) : Calls Tryz.prog 17 #[va, vb] w fun e w' => ∃ A c base xs, e = .returned (.slice A (quo a b).length c) ∧ Pl.Gr dQ w' base 22 1 (.slice A (quo a b).length c) (quo a b).length xs ∧ Qs w' xs (quo a b) ∧ Ext w w' :=
 (tJ w va vb a b ha hb hla hlb).mono fun e w' ⟨v, base, xs, he, hG, hQ, hE⟩ => by
  obtain ⟨A, c, rfl⟩ := Gr.sh hG
  exact ⟨A, c, base, xs, he, hG, hQ, hE⟩
end Go.Proofs.YtnilonnkcbkdmaaGreatDoor
namespace Go.Proofs.YtnilonnkcbkdmaaGreatDoor
open Go.RowKit
set_option linter.unusedVariables false
set_option maxHeartbeats 400000
theorem RM.last {a b : Nat} : ∀ (Q P : Nat) (uP vP uQ vQ : Int) (done : List Nat), RM a b P Q uP vP uQ vQ done → ∃ uQ vQ, RM a b (Nat.gcd a b) 0 (cf (quo a b) 1 0).1 (cf (quo a b) 0 1).1 uQ vQ (quo a b) := by
 intro Q
 induction Q using Nat.strongRecOn with
 | ind Q ih =>
  intro P uP vP uQ vQ done h
  by_cases h0 : Q = 0
  · subst h0
    have h2 := h
    obtain ⟨m1, m2, m3, m4, -⟩ := h2
    rw [eY] at m1 m2 m3
    rw [List.append_nil] at m1
    rw [Nat.gcd_zero_right] at m4
    refine ⟨uQ, vQ, ?_⟩
    rw [← m2, ← m3, ← m4, m1]
    exact h
  · exact ih _ (Nat.mod_lt _ (Nat.pos_of_ne_zero h0)) _ _ _ _ _ _ (h.step h0)
theorem IE (b : Nat) : ∀ a, b ≤ a → ∀ k ∈ quo a b, 1 ≤ k := by
 induction b using Nat.strongRecOn with
 | ind b ih =>
  intro a h k hk
  by_cases h0 : b = 0
  · subst h0; rw [eY] at hk; cases hk
  · rw [fH h0] at hk
    have hm := Nat.mod_lt a (Nat.pos_of_ne_zero h0)
    rcases List.mem_cons.1 hk with rfl | hk
    · exact (Nat.le_div_iff_mul_le (Nat.pos_of_ne_zero h0)).2 (by omega)
    · exact ih _ hm b (Nat.le_of_lt hm) k hk
end Go.Proofs.YtnilonnkcbkdmaaGreatDoor
namespace Go.Proofs.YtnilonnkcbkdmaaGreatDoor
open Go.RowKit
set_option linter.unusedVariables false
set_option linter.unusedSimpArgs false
set_option maxHeartbeats 400000
def EP : Nat → Nat → Nat → Nat × Nat
 | a, b, 0 => (a, b)
 | a, b, k + 1 => EP b (a % b) k
theorem QX : ∀ (k a b : Nat) (h : k < (quo a b).length), (EP a b k).1 = (quo a b)[k] * (EP a b (k + 1)).1 + (EP a b (k + 1)).2 ∧ (EP a b k).2 = (EP a b (k + 1)).1
 | 0, a, b, h => by
  have h0 : b ≠ 0 := by rintro rfl; rw [eY] at h; cases h
  have e : (quo a b)[0] = a / b := by simp [fH h0]
  rw [e]
  show a = a / b * b + a % b ∧ b = b
  exact ⟨by rw [Nat.mul_comm]; exact (Nat.div_add_mod a b).symm, rfl⟩
 | k + 1, a, b, h => by
  have h0 : b ≠ 0 := by rintro rfl; rw [eY] at h; cases h
  have h2 : k < (quo b (a % b)).length := by rw [fH h0] at h; simpa using h
  have e : (quo a b)[k + 1] = (quo b (a % b))[k] := by simp [fH h0]
  rw [e]
  exact QX k b (a % b) h2
theorem QY (b : Nat) : ∀ a, EP a b (quo a b).length = (Nat.gcd a b, 0) := by
 induction b using Nat.strongRecOn with
 | ind b ih =>
  intro a
  by_cases h0 : b = 0
  · subst h0; rw [eY, Nat.gcd_zero_right]; rfl
  · rw [fH h0]
    show EP b (a % b) (quo b (a % b)).length = _
    rw [ih (a % b) (Nat.mod_lt _ (Nat.pos_of_ne_zero h0)) b, rU]
theorem Ur : ∀ (k a b M : Nat), a ≤ M → b ≤ M → (EP a b k).1 ≤ M ∧ (EP a b k).2 ≤ M
 | 0, a, b, M, h1, h2 => ⟨h1, h2⟩
 | k + 1, a, b, M, h1, h2 => Ur k b (a % b) M h2 (Nat.le_trans (Nat.mod_le a b) h1)
theorem NV {a b K : Nat} (ha : Sn a K) (hb : Sn b K) : Sn (max a b) K := by
 rcases Nat.le_total a b with h | h
 · rw [Nat.max_eq_right h]; exact hb
 · rw [Nat.max_eq_left h]; exact ha
theorem FX {a b K : Nat} (k : Nat) (ha : Sn a K) (hb : Sn b K) : Sn (EP a b k).1 K := (NV ha hb).down (Ur k a b _ (Nat.le_max_left a b) (Nat.le_max_right a b)).1
theorem FY {a b K : Nat} (k : Nat) (ha : Sn a K) (hb : Sn b K) : Sn (EP a b k).2 K := (NV ha hb).down (Ur k a b _ (Nat.le_max_left a b) (Nat.le_max_right a b)).2
theorem afy {a b K i : Nat} (ha : Sn a K) (hb : Sn b K) (h : i < (quo a b).length) : Sn (quo a b)[i] K := (NV ha hb).down (aoW a b _ (List.getElem_mem h))
theorem aoX {a b i : Nat} (h : i < (quo a b).length) (hi : 0 < i) : (quo a b)[i] ≠ 0 := by
 have h0 : b ≠ 0 := by rintro rfl; rw [eY] at h; cases h
 obtain ⟨j, rfl⟩ : ∃ j, i = j + 1 := ⟨i - 1, by omega⟩
 have h2 : j < (quo b (a % b)).length := by rw [fH h0] at h; simpa using h
 have e : (quo a b)[j + 1] = (quo b (a % b))[j] := by simp [fH h0]
 rw [e]
 have := IE (a % b) b (Nat.le_of_lt (Nat.mod_lt a (Nat.pos_of_ne_zero h0))) _ (List.getElem_mem h2)
 omega
theorem ai1 (b : Nat) : ∀ (a i : Nat) (h : i < (quo a b).length), b < a → i + 1 = (quo a b).length → 2 ≤ (quo a b)[i] := by
 induction b using Nat.strongRecOn with
 | ind b ih =>
  intro a i h hba hi
  have h0 : b ≠ 0 := by rintro rfl; rw [eY] at h; cases h
  have hm := Nat.mod_lt a (Nat.pos_of_ne_zero h0)
  have hl : (quo a b).length = (quo b (a % b)).length + 1 := by rw [fH h0]; rfl
  by_cases hr : a % b = 0
  · have hz : (quo b (a % b)).length = 0 := by rw [hr, eY]; rfl
    obtain rfl : i = 0 := by omega
    have e : (quo a b)[0] = a / b := by simp [fH h0]
    rw [e]
    have hd := Nat.div_add_mod a b
    rw [hr, Nat.add_zero] at hd
    rcases Nat.lt_or_ge (a / b) 2 with h1 | h1
    · have : b * (a / b) ≤ b * 1 := Nat.mul_le_mul_left b (by omega)
      omega
    · exact h1
  · have hp : 0 < (quo b (a % b)).length := by rw [fH hr]; simp
    obtain ⟨j, rfl⟩ : ∃ j, i = j + 1 := ⟨i - 1, by omega⟩
    have e : (quo a b)[j + 1] = (quo b (a % b))[j]'(by omega) := by simp [fH h0]
    rw [e]
    exact ih _ hm b j (by omega) hm (by omega)
theorem ai2 {a b i : Nat} (h : i < (quo a b).length) (hi : i + 1 = (quo a b).length) (h1 : 1 < (quo a b).length) : (quo a b)[i] ≠ 1 := by
 have h0 : b ≠ 0 := by rintro rfl; rw [eY] at h; cases h
 have hm := Nat.mod_lt a (Nat.pos_of_ne_zero h0)
 have hl : (quo a b).length = (quo b (a % b)).length + 1 := by rw [fH h0]; rfl
 obtain ⟨j, rfl⟩ : ∃ j, i = j + 1 := ⟨i - 1, by omega⟩
 have e : (quo a b)[j + 1] = (quo b (a % b))[j]'(by omega) := by simp [fH h0]
 rw [e]
 have := ai1 (a % b) b j (by omega) hm (by omega)
 omega
theorem QZ (a b : Nat) : ((((quo a b).length : Nat) : Int) == 0) = decide (b = 0) := by
 by_cases h : b = 0
 · subst h; simp [eY]
 · rw [decide_eq_false h, fH h]; simp; omega
section
variable {L : List Oper} {S : World → Prop} {K : List (Nat × Value) → World → Prop} {i m d : Nat} {o : Oper} {r : List (Bool × Nat × Nat)} {l : List (Nat × Value)} {w : World}
theorem ai3 (ho : Pl.nth L i = some o) (hp : o.op = .buildSlice 22 0 #[]) (hd : o.dst = some d) (hg : Pl.gd L l o.guard = some true) (hS : ∀ Y, Ext w Y → S Y)
  (h : ∀ v w', Ext w w' → Un w' v 0 → Pl.gY Tryz.prog L S K r ((d, v) :: l) w') : Pl.gY Tryz.prog L S K ((false, i, m) :: r) l w := by
 have e1 := (Ext.refl w).alloc (.cells ([] : List Value).toArray 43)
 refine Pl.kU (w' := w.alloc (.cells ([] : List Value).toArray 43)) (v := .slice (some ⟨w.heap.size, 0, none⟩) 0 0) ho hd hg (fun ρ hρ => ?_) (hS _ e1) (h _ _ e1 ?_)
 · unfold execOp; rw [hp]
   refine Pl.jy _ ?_
   simp only [List.map_toArray, List.map_cons, List.map_nil]
   go_simp
 · show U _ _ (limbs 0)
   rw [bf]
   exact U.mE _ _ _
end
end Go.Proofs.YtnilonnkcbkdmaaGreatDoor
namespace Go.Proofs.YtnilonnkcbkdmaaGreatDoor
open Go.RowKit
set_option linter.unusedVariables false
set_option linter.unusedSimpArgs false
set_option maxHeartbeats 400000
namespace Xo
theorem qB (u : Array Value) (X : World) : (callFunc 12 u).run Tryz.prog X = .ok (.enter 12 u) X := Pl.enters Tryz.func12 (by kernel_rfl) rfl u X
theorem jh (u : Array Value) (X : World) : (callFunc 13 u).run Tryz.prog X = .ok (.enter 13 u) X := Pl.enters Tryz.func13 (by kernel_rfl) rfl u X
theorem YF (u : Array Value) (X : World) : (callFunc 17 u).run Tryz.prog X = .ok (.enter 17 u) X := Pl.enters Tryz.func17 (by kernel_rfl) rfl u X
theorem gT (u : Array Value) (X : World) : (callFunc 19 u).run Tryz.prog X = .ok (.enter 19 u) X := Pl.enters Tryz.func19 (by kernel_rfl) rfl u X
theorem yf (u : Array Value) (X : World) : (callFunc 20 u).run Tryz.prog X = .ok (.enter 20 u) X := Pl.enters Tryz.func20 (by kernel_rfl) rfl u X
theorem qL (u : Array Value) (X : World) : (callFunc 28 u).run Tryz.prog X = .ok (.enter 28 u) X := Pl.enters Tryz.func28 (by kernel_rfl) rfl u X
theorem Nv (u : Array Value) (X : World) : (callFunc 30 u).run Tryz.prog X = .ok (.enter 30 u) X := Pl.enters Tryz.func30 (by kernel_rfl) rfl u X
end Xo
open Xo
set_option maxRecDepth 100000 in
set_option maxHeartbeats 4000000 in
theorem Us (w : World) (r0 : Value) (xa : List Nat) (u0 : U w r0 xa) (r1 : Value) (xb : List Nat) (u1 : U w r1 xb) (a b : Nat) (da : dG xa 25 = a) (hla : Sn a 25) (db : dG xb 25 = b) (hlb : Sn b 25) (hsh : (quo a b).length ≤ 64000) :
  Calls Tryz.prog 7 #[r0, r1] w fun e w' => e = .returned (.bool true) ∧ Ext w w' := by
 refine Pl.aV (n := 83) (vs := [r0, r1]) Tryz.func7 rfl (by kernel_rfl) (by simp) ?_
 refine Pl.az ?_
 refine Pl.ay (by kernel_rfl) ?_
 refine Pl.aj trivial rfl rfl rfl rfl rfl ?_
 refine Pl.ak ?_
 refine Pl.az ?_
 refine Pl.ay (by kernel_rfl) ?_
 refine Pl.aA rfl rfl rfl rfl rfl qB ?_
 refine Calls.mono (pK _) ?_
 rintro e w1 ⟨rfl, hB1⟩
 refine ⟨_, rfl, trivial, ?_⟩
 refine Pl.aj trivial rfl rfl rfl rfl rfl ?_
 refine Pl.ak ?_
 refine Pl.az ?_
 refine Pl.ay (by kernel_rfl) ?_
 refine Pl.ah trivial rfl rfl rfl rfl rfl ?_
 have jI := U.below u0 hB1
 refine Pl.aA rfl rfl rfl rfl rfl jh ?_
 refine Calls.mono (dR _ _ xa 25 jI (by decide) (by decide) a da) ?_
 rintro e w2 ⟨jm, rfl, bn, hB2⟩
 refine ⟨_, rfl, trivial, ?_⟩
 refine Pl.aj trivial rfl rfl rfl rfl rfl ?_
 refine Pl.ak ?_
 refine Pl.az ?_
 refine Pl.ay (by kernel_rfl) ?_
 refine Pl.ah trivial rfl rfl rfl rfl rfl ?_
 have jV := U.below u1 (Ext.below hB1 hB2)
 refine Pl.aA rfl rfl rfl rfl rfl jh ?_
 refine Calls.mono (dR _ _ xb 25 jV (by decide) (by decide) b db) ?_
 rintro e w3 ⟨mV, rfl, bC, hB3⟩
 refine ⟨_, rfl, trivial, ?_⟩
 refine Pl.aj trivial rfl rfl rfl rfl rfl ?_
 refine Pl.ak ?_
 refine Pl.az ?_
 refine Pl.ay (by kernel_rfl) ?_
 refine Pl.ah trivial rfl rfl rfl rfl rfl ?_
 refine Pl.ah trivial rfl rfl rfl rfl rfl ?_
 have gM := Un.below bn hB3
 refine Pl.aA rfl rfl rfl rfl rfl YF ?_
 refine Calls.mono (Jv _ _ _ a b gM bC (Sn.le hla (by decide)) (Sn.le hlb (by decide))) ?_
 rintro e w4 ⟨MQ, Gt, axr, aDC, rfl, Mf, akV, hB4⟩
 refine ⟨_, rfl, trivial, ?_⟩
 refine Pl.ah trivial rfl rfl rfl rfl rfl ?_
 refine Pl.ah trivial rfl rfl rfl rfl rfl ?_
 have gL := Un.below gM hB4
 have wo := Un.below bC hB4
 refine Pl.aA rfl rfl rfl rfl rfl yf ?_
 refine Calls.mono (jP _ _ _ a b gL wo (Sn.le hla (by decide)) (Sn.le hlb (by decide))) ?_
 rintro e w5 ⟨rE, rfl, mY, bH⟩
 refine ⟨_, rfl, trivial, ?_⟩
 have rF : Sn (Nat.gcd a b) 90 := iD (Sn.le hla (by decide)) (Sn.le hlb (by decide))
 refine ai3 rfl rfl rfl rfl (fun _ _ => trivial) ?_
 intro aAx w6 aZ TY
 refine Pl.aj trivial rfl rfl rfl rfl rfl ?_
 refine Pl.aj trivial rfl rfl rfl rfl rfl ?_
 refine Pl.aj trivial rfl rfl rfl rfl rfl ?_
 refine Pl.ak ?_
 refine Pl.az ?_
 refine Pl.az ?_
 refine Pl.ay (by kernel_rfl) ?_
 refine Pl.ah trivial rfl rfl rfl rfl rfl ?_
 refine nN trivial rfl rfl rfl rfl rfl ?_
 refine Pl.aI (v := (.int .i64 ((((quo a b).length : Nat) : Int) - 1))) trivial rfl rfl rfl rfl rfl rfl (fun X => j6 rfl (by omega) (by omega) X) ?_
 refine Pl.aj trivial rfl rfl rfl rfl rfl ?_
 refine Pl.ak ?_
 refine Pl.kS [(0, jm), (1, mV), (5, (.bool true)), (6, .slice MQ (quo a b).length Gt), (7, rE), (8, aAx), (9, .int .i64 ((((quo a b).length : Nat) : Int) - 1))] (Pl.aa rfl (Pl.aa rfl (Pl.aa rfl (Pl.aa rfl (Pl.aa rfl (Pl.aa rfl (Pl.aa rfl Pl.aK))))))) ?_
 refine Pl.cK ?_
 have CG := Un.below mY aZ
 refine Pl.mU (fun k l' w' => ∃ u v, k ≤ (quo a b).length ∧ Un w' u (EP a b k).1 ∧ Un w' v (EP a b k).2 ∧ Ext w6 w' ∧ l' = [(0, jm), (1, mV), (5, (.bool true)), (6, .slice MQ (quo a b).length Gt), (7, u), (8, v), (9, .int .i64 (((k : Nat) : Int) - 1))]) (quo a b).length ⟨_, _, Nat.le_refl _, by rw [QY]; exact CG, by rw [QY]; exact TY, Ext.refl _, rfl⟩ ?_
 rintro k _ w7 ⟨v_u, v_v, hkn, QK, h_v, bW, rfl⟩
 rcases Nat.eq_zero_or_pos k with hk0 | hk0
 · subst hk0
   replace QK : Un w7 v_u a := QK
   replace h_v : Un w7 v_v b := h_v
   by_cases hn : 1 < (quo a b).length
   · obtain ⟨aoY, aoZ, ao0, -⟩ := Gr.shape Mf (by omega)
     injection ao0 with afz avk afA
     subst afz
     subst afA
     have hlt : (quo a b).length - 1 < (quo a b).length := (by omega)
     obtain ⟨avl, Q0, Mg⟩ := Qs.get ((quo a b).length - 1) akV hlt
     have hes := afy hla hlb hlt
     have hl1 := ai2 hlt (by omega) hn
     generalize (quo a b)[(quo a b).length - 1] = el at *
     obtain ⟨avm, avn, rfl, -⟩ := Un.sh Mg
     refine Pl.az ?_
     refine Pl.az ?_
     refine Pl.ay (by kernel_rfl) ?_
     refine Pl.ah trivial rfl rfl rfl rfl rfl ?_
     refine Pl.aI (v := (.bool false)) trivial rfl rfl rfl rfl rfl rfl (fun X => rV (decide_eq_false (by omega)) X) ?_
     refine Pl.ak ?_
     refine Pl.bD rfl ?_
     refine Pl.jE ?_
     refine Pl.az ?_
     refine Pl.az ?_
     refine Pl.ay (by kernel_rfl) ?_
     refine Pl.ah trivial rfl rfl rfl rfl rfl ?_
     refine nN trivial rfl rfl rfl rfl rfl ?_
     refine Pl.aI (v := (.bool true)) trivial rfl rfl rfl rfl rfl rfl (fun X => kY (decide_eq_true (by omega)) X) ?_
     refine Pl.ah trivial rfl rfl rfl rfl rfl ?_
     refine Pl.ah trivial rfl rfl rfl rfl rfl ?_
     refine Pl.ah trivial rfl rfl rfl rfl rfl ?_
     refine nN trivial rfl rfl rfl rfl rfl ?_
     refine Pl.aI (v := (.int .i64 (((quo a b).length - 1 : Nat) : Int))) trivial rfl rfl rfl rfl rfl rfl (fun X => j6 (by omega) (by omega) (by omega) X) ?_
     refine aP trivial rfl rfl rfl rfl rfl rfl (Nf _ _ _ ((quo a b).length - 1) (by omega)) ?_
     refine Pl.aH trivial rfl rfl rfl rfl rfl (Gr.wP (Gr.ext Mf (Ext.below bH (Ext.below aZ bW))) Q0) ?_
     refine cO (n := 1) (by decide) rfl rfl rfl rfl rfl (fun _ _ => trivial) ?_
     intro Vz w8 cB vX
     have Ca := U.kV (by decide) (by decide) vX
     have afB := Un.below Mg (Ext.below bH (Ext.below aZ (Ext.below bW cB)))
     refine Pl.aA rfl rfl rfl rfl rfl gT ?_
     refine Calls.mono (eZ _ _ _ el 1 afB Ca false (decide_eq_false hl1)) ?_
     rintro e w9 ⟨rfl, eP⟩
     refine ⟨_, rfl, trivial, ?_⟩
     refine Pl.aO trivial rfl rfl rfl rfl rfl rfl ?_
     refine Pl.ak ?_
     refine Pl.bD rfl ?_
     refine Pl.bN ?_
     refine Pl.az ?_
     refine Pl.ay (by kernel_rfl) ?_
     refine Pl.ah trivial rfl rfl rfl rfl rfl ?_
     refine Pl.ah trivial rfl rfl rfl rfl rfl ?_
     have Jw := Un.below QK (Ext.below cB eP)
     have qM := Un.below gL (Ext.below bH (Ext.below aZ (Ext.below bW (Ext.below cB eP))))
     refine Pl.aA rfl rfl rfl rfl rfl gT ?_
     refine Calls.mono (eZ _ _ _ a a Jw qM true (decide_eq_true rfl)) ?_
     rintro e xN ⟨rfl, bY⟩
     refine ⟨_, rfl, trivial, ?_⟩
     refine Pl.ah trivial rfl rfl rfl rfl rfl ?_
     refine Pl.ah trivial rfl rfl rfl rfl rfl ?_
     refine Pl.ah trivial rfl rfl rfl rfl rfl ?_
     have ai4 := Un.below h_v (Ext.below cB (Ext.below eP bY))
     have Xp := Un.below wo (Ext.below bH (Ext.below aZ (Ext.below bW (Ext.below cB (Ext.below eP bY)))))
     refine Pl.aA rfl rfl rfl rfl rfl gT ?_
     refine Calls.mono (eZ _ _ _ b b ai4 Xp true (decide_eq_true rfl)) ?_
     rintro e AU ⟨rfl, bX⟩
     refine ⟨_, rfl, trivial, ?_⟩
     refine Pl.aO trivial rfl rfl rfl rfl rfl rfl ?_
     refine Pl.ah trivial rfl rfl rfl rfl rfl ?_
     refine Pl.ah trivial rfl rfl rfl rfl rfl ?_
     refine nN trivial rfl rfl rfl rfl rfl ?_
     refine Pl.aI (v := (.bool (decide (b = 0)))) trivial rfl rfl rfl rfl rfl rfl (fun X => fV (QZ a b) X) ?_
     refine Pl.ah trivial rfl rfl rfl rfl rfl ?_
     obtain ⟨Ke, Kg, rfl, -⟩ := Un.sh Xp
     refine bG trivial rfl rfl rfl rfl rfl ?_
     refine Pl.aI (v := (.bool (decide (b = 0)))) trivial rfl rfl rfl rfl rfl rfl (fun X => fV dN X) ?_
     refine Pl.aI (v := (.bool true)) trivial rfl rfl rfl rfl rfl rfl (fun X => akU (by simp) X) ?_
     refine Pl.aO trivial rfl rfl rfl rfl rfl rfl ?_
     refine Pl.ah trivial rfl rfl rfl rfl rfl ?_
     refine Pl.ah trivial rfl rfl rfl rfl rfl ?_
     refine Pl.aO trivial rfl rfl rfl rfl rfl rfl ?_
     refine Pl.aj trivial rfl rfl rfl rfl rfl ?_
     refine Pl.ak ?_
     refine Pl.bU rfl rfl ?_
     exact ⟨rfl, (Ext.below hB1 (Ext.below hB2 (Ext.below hB3 (Ext.below hB4 (Ext.below bH (Ext.below aZ (Ext.below bW (Ext.below cB (Ext.below eP (Ext.below bY bX))))))))))⟩
   · refine Pl.az ?_
     refine Pl.az ?_
     refine Pl.ay (by kernel_rfl) ?_
     refine Pl.ah trivial rfl rfl rfl rfl rfl ?_
     refine Pl.aI (v := (.bool false)) trivial rfl rfl rfl rfl rfl rfl (fun X => rV (decide_eq_false (by omega)) X) ?_
     refine Pl.ak ?_
     refine Pl.bD rfl ?_
     refine Pl.jE ?_
     refine Pl.az ?_
     refine Pl.az ?_
     refine Pl.ay (by kernel_rfl) ?_
     refine Pl.ah trivial rfl rfl rfl rfl rfl ?_
     refine nN trivial rfl rfl rfl rfl rfl ?_
     refine Pl.aI (v := (.bool false)) trivial rfl rfl rfl rfl rfl rfl (fun X => kY (decide_eq_false (by omega)) X) ?_
     refine Pl.ah trivial rfl rfl rfl rfl rfl ?_
     refine Pl.ed rfl rfl rfl ?_
     refine Pl.ed rfl rfl rfl ?_
     refine Pl.ed rfl rfl rfl ?_
     refine Pl.ed rfl rfl rfl ?_
     refine Pl.ed rfl rfl rfl ?_
     refine Pl.ed rfl rfl rfl ?_
     refine Pl.ed rfl rfl rfl ?_
     refine Pl.ed rfl rfl rfl ?_
     refine Pl.aO trivial rfl rfl rfl rfl rfl rfl ?_
     refine Pl.ak ?_
     refine Pl.bD rfl ?_
     refine Pl.bN ?_
     refine Pl.az ?_
     refine Pl.ay (by kernel_rfl) ?_
     refine Pl.ah trivial rfl rfl rfl rfl rfl ?_
     refine Pl.ah trivial rfl rfl rfl rfl rfl ?_
     have nP := Un.below gL (Ext.below bH (Ext.below aZ bW))
     refine Pl.aA rfl rfl rfl rfl rfl gT ?_
     refine Calls.mono (eZ _ _ _ a a QK nP true (decide_eq_true rfl)) ?_
     rintro e w8 ⟨rfl, cB⟩
     refine ⟨_, rfl, trivial, ?_⟩
     refine Pl.ah trivial rfl rfl rfl rfl rfl ?_
     refine Pl.ah trivial rfl rfl rfl rfl rfl ?_
     refine Pl.ah trivial rfl rfl rfl rfl rfl ?_
     have Jy := Un.below h_v cB
     have I5 := Un.below wo (Ext.below bH (Ext.below aZ (Ext.below bW cB)))
     refine Pl.aA rfl rfl rfl rfl rfl gT ?_
     refine Calls.mono (eZ _ _ _ b b Jy I5 true (decide_eq_true rfl)) ?_
     rintro e w9 ⟨rfl, eP⟩
     refine ⟨_, rfl, trivial, ?_⟩
     refine Pl.aO trivial rfl rfl rfl rfl rfl rfl ?_
     refine Pl.ah trivial rfl rfl rfl rfl rfl ?_
     refine Pl.ah trivial rfl rfl rfl rfl rfl ?_
     refine nN trivial rfl rfl rfl rfl rfl ?_
     refine Pl.aI (v := (.bool (decide (b = 0)))) trivial rfl rfl rfl rfl rfl rfl (fun X => fV (QZ a b) X) ?_
     refine Pl.ah trivial rfl rfl rfl rfl rfl ?_
     obtain ⟨Ke, Kg, rfl, -⟩ := Un.sh I5
     refine bG trivial rfl rfl rfl rfl rfl ?_
     refine Pl.aI (v := (.bool (decide (b = 0)))) trivial rfl rfl rfl rfl rfl rfl (fun X => fV dN X) ?_
     refine Pl.aI (v := (.bool true)) trivial rfl rfl rfl rfl rfl rfl (fun X => akU (by simp) X) ?_
     refine Pl.aO trivial rfl rfl rfl rfl rfl rfl ?_
     refine Pl.ah trivial rfl rfl rfl rfl rfl ?_
     refine Pl.ah trivial rfl rfl rfl rfl rfl ?_
     refine Pl.aO trivial rfl rfl rfl rfl rfl rfl ?_
     refine Pl.aj trivial rfl rfl rfl rfl rfl ?_
     refine Pl.ak ?_
     refine Pl.bU rfl rfl ?_
     exact ⟨rfl, (Ext.below hB1 (Ext.below hB2 (Ext.below hB3 (Ext.below hB4 (Ext.below bH (Ext.below aZ (Ext.below bW (Ext.below cB eP))))))))⟩
 · obtain ⟨j, rfl⟩ : ∃ j, k = j + 1 := ⟨k - 1, by omega⟩
   rw [show (((j + 1 : Nat) : Int) - 1) = ((j : Nat) : Int) from by omega]
   obtain ⟨aoY, aoZ, ao0, -⟩ := Gr.shape Mf (by omega)
   injection ao0 with afz avk afA
   subst afz
   subst afA
   have hlt : j < (quo a b).length := (by omega)
   obtain ⟨avl, Q0, Mg⟩ := Qs.get j akV hlt
   have hes := afy hla hlb hlt
   have hst := QX j a b hlt
   have hnz := aoX hlt
   generalize (quo a b)[j] = el at *
   obtain ⟨avm, avn, rfl, -⟩ := Un.sh Mg
   rcases Nat.eq_zero_or_pos j with hj0 | hj0
   · refine Pl.az ?_
     refine Pl.az ?_
     refine Pl.ay (by kernel_rfl) ?_
     refine Pl.ah trivial rfl rfl rfl rfl rfl ?_
     refine Pl.aI (v := (.bool true)) trivial rfl rfl rfl rfl rfl rfl (fun X => rV (decide_eq_true (by omega)) X) ?_
     refine Pl.ak ?_
     refine Pl.dh rfl ?_
     refine Pl.bN ?_
     refine Pl.az ?_
     refine Pl.cK ?_
     refine Pl.az ?_
     refine Pl.ay (by kernel_rfl) ?_
     refine Pl.ah trivial rfl rfl rfl rfl rfl ?_
     refine Pl.ah trivial rfl rfl rfl rfl rfl ?_
     refine aP trivial rfl rfl rfl rfl rfl rfl (Nf _ _ _ j hlt) ?_
     refine Pl.aH trivial rfl rfl rfl rfl rfl (Gr.wP (Gr.ext Mf (Ext.below bH (Ext.below aZ bW))) Q0) ?_
     refine Pl.ah trivial rfl rfl rfl rfl rfl ?_
     have Jz := Un.below Mg (Ext.below bH (Ext.below aZ bW))
     refine Pl.aA rfl rfl rfl rfl rfl qL ?_
     refine Calls.mono (kP _ _ _ el ((EP a b (j + 1)).1) _ Jz QK (Sn.le hes (by decide)) (Sn.le (FX (j + 1) hla hlb) (by decide)) rfl) ?_
     rintro e w8 ⟨rY, rfl, kI, cB⟩
     refine ⟨_, rfl, trivial, ?_⟩
     have dZ : Sn (el * (EP a b (j + 1)).1) 50 := Sn.mul hes (FX (j + 1) hla hlb) (by decide)
     refine Pl.ah trivial rfl rfl rfl rfl rfl ?_
     have Jy := Un.below h_v cB
     refine Pl.aA rfl rfl rfl rfl rfl Nv ?_
     refine Calls.mono (wm _ _ _ (el * (EP a b (j + 1)).1) ((EP a b (j + 1)).2) kI Jy (Sn.le dZ (by decide)) (Sn.le (FY (j + 1) hla hlb) (by decide)) _ rfl) ?_
     rintro e w9 ⟨zQ, rfl, qw, eP⟩
     refine ⟨_, rfl, trivial, ?_⟩
     have pJ : Sn ((el * (EP a b (j + 1)).1) + (EP a b (j + 1)).2) 51 := Sn.add dZ (FY (j + 1) hla hlb) (by decide) (by decide)
     refine Pl.aj trivial rfl rfl rfl rfl rfl ?_
     refine Pl.ak ?_
     refine Pl.az ?_
     refine Pl.ay (by kernel_rfl) ?_
     refine Pl.ah trivial rfl rfl rfl rfl rfl ?_
     refine Pl.aj trivial rfl rfl rfl rfl rfl ?_
     refine Pl.ak ?_
     refine Pl.az ?_
     refine Pl.ay (by kernel_rfl) ?_
     refine Pl.ah trivial rfl rfl rfl rfl rfl ?_
     refine Pl.aj trivial rfl rfl rfl rfl rfl ?_
     refine Pl.ak ?_
     refine Pl.az ?_
     refine Pl.ay (by kernel_rfl) ?_
     refine Pl.ah trivial rfl rfl rfl rfl rfl ?_
     refine Pl.aI (v := (.bool false)) trivial rfl rfl rfl rfl rfl rfl (fun X => kY (decide_eq_false (by omega)) X) ?_
     refine Pl.ah trivial rfl rfl rfl rfl rfl ?_
     refine Pl.ed rfl rfl rfl ?_
     refine Pl.ed rfl rfl rfl ?_
     refine Pl.ed rfl rfl rfl ?_
     refine Pl.ed rfl rfl rfl ?_
     refine Pl.ed rfl rfl rfl ?_
     refine Pl.ed rfl rfl rfl ?_
     refine Pl.aO trivial rfl rfl rfl rfl rfl rfl ?_
     refine Pl.ak ?_
     refine Pl.bD rfl ?_
     refine Pl.bN ?_
     refine Pl.bZ ?_
     refine Pl.ay (by kernel_rfl) ?_
     refine Pl.ah trivial rfl rfl rfl rfl rfl ?_
     refine Pl.aI (v := (.int .i64 (((j : Nat) : Int) - 1))) trivial rfl rfl rfl rfl rfl rfl (fun X => j6 (by omega) (by omega) (by omega) X) ?_
     refine Pl.aj trivial rfl rfl rfl rfl rfl ?_
     refine Pl.ak ?_
     have Jw := Un.below QK (Ext.below cB eP)
     exact Pl.iY [(0, jm), (1, mV), (5, (.bool true)), (6, .slice (some ⟨aoY, 0, none⟩) (quo a b).length Gt), (7, zQ), (8, v_u), (9, .int .i64 (((j : Nat) : Int) - 1))] (Pl.aa rfl (Pl.aa rfl (Pl.aa rfl (Pl.aa rfl (Pl.aa rfl (Pl.aa rfl (Pl.aa rfl Pl.aK))))))) (by omega) ⟨_, _, by omega, by rw [hst.1]; exact qw, by rw [hst.2]; exact Jw, (Ext.below bW (Ext.below cB eP)), rfl⟩
   · refine Pl.az ?_
     refine Pl.az ?_
     refine Pl.ay (by kernel_rfl) ?_
     refine Pl.ah trivial rfl rfl rfl rfl rfl ?_
     refine Pl.aI (v := (.bool true)) trivial rfl rfl rfl rfl rfl rfl (fun X => rV (decide_eq_true (by omega)) X) ?_
     refine Pl.ak ?_
     refine Pl.dh rfl ?_
     refine Pl.bN ?_
     refine Pl.az ?_
     refine Pl.cK ?_
     refine Pl.az ?_
     refine Pl.ay (by kernel_rfl) ?_
     refine Pl.ah trivial rfl rfl rfl rfl rfl ?_
     refine Pl.ah trivial rfl rfl rfl rfl rfl ?_
     refine aP trivial rfl rfl rfl rfl rfl rfl (Nf _ _ _ j hlt) ?_
     refine Pl.aH trivial rfl rfl rfl rfl rfl (Gr.wP (Gr.ext Mf (Ext.below bH (Ext.below aZ bW))) Q0) ?_
     refine Pl.ah trivial rfl rfl rfl rfl rfl ?_
     have Jz := Un.below Mg (Ext.below bH (Ext.below aZ bW))
     refine Pl.aA rfl rfl rfl rfl rfl qL ?_
     refine Calls.mono (kP _ _ _ el ((EP a b (j + 1)).1) _ Jz QK (Sn.le hes (by decide)) (Sn.le (FX (j + 1) hla hlb) (by decide)) rfl) ?_
     rintro e w8 ⟨rY, rfl, kI, cB⟩
     refine ⟨_, rfl, trivial, ?_⟩
     have dZ : Sn (el * (EP a b (j + 1)).1) 50 := Sn.mul hes (FX (j + 1) hla hlb) (by decide)
     refine Pl.ah trivial rfl rfl rfl rfl rfl ?_
     have Jy := Un.below h_v cB
     refine Pl.aA rfl rfl rfl rfl rfl Nv ?_
     refine Calls.mono (wm _ _ _ (el * (EP a b (j + 1)).1) ((EP a b (j + 1)).2) kI Jy (Sn.le dZ (by decide)) (Sn.le (FY (j + 1) hla hlb) (by decide)) _ rfl) ?_
     rintro e w9 ⟨zQ, rfl, qw, eP⟩
     refine ⟨_, rfl, trivial, ?_⟩
     have pJ : Sn ((el * (EP a b (j + 1)).1) + (EP a b (j + 1)).2) 51 := Sn.add dZ (FY (j + 1) hla hlb) (by decide) (by decide)
     refine Pl.aj trivial rfl rfl rfl rfl rfl ?_
     refine Pl.ak ?_
     refine Pl.az ?_
     refine Pl.ay (by kernel_rfl) ?_
     refine Pl.ah trivial rfl rfl rfl rfl rfl ?_
     refine Pl.aj trivial rfl rfl rfl rfl rfl ?_
     refine Pl.ak ?_
     refine Pl.az ?_
     refine Pl.ay (by kernel_rfl) ?_
     refine Pl.ah trivial rfl rfl rfl rfl rfl ?_
     refine Pl.aj trivial rfl rfl rfl rfl rfl ?_
     refine Pl.ak ?_
     refine Pl.az ?_
     refine Pl.ay (by kernel_rfl) ?_
     refine Pl.ah trivial rfl rfl rfl rfl rfl ?_
     refine Pl.aI (v := (.bool true)) trivial rfl rfl rfl rfl rfl rfl (fun X => kY (decide_eq_true (by omega)) X) ?_
     refine Pl.ah trivial rfl rfl rfl rfl rfl ?_
     refine Pl.ah trivial rfl rfl rfl rfl rfl ?_
     refine Pl.ah trivial rfl rfl rfl rfl rfl ?_
     refine aP trivial rfl rfl rfl rfl rfl rfl (Nf _ _ _ j hlt) ?_
     refine Pl.aH trivial rfl rfl rfl rfl rfl (Gr.wP (Gr.ext Mf (Ext.below bH (Ext.below aZ (Ext.below bW (Ext.below cB eP))))) Q0) ?_
     refine bG trivial rfl rfl rfl rfl rfl ?_
     refine Pl.aI (v := (.bool false)) trivial rfl rfl rfl rfl rfl rfl (fun X => fV (dN.trans (decide_eq_false (hnz hj0))) X) ?_
     refine Pl.aO trivial rfl rfl rfl rfl rfl rfl ?_
     refine Pl.ak ?_
     refine Pl.bD rfl ?_
     refine Pl.bN ?_
     refine Pl.bZ ?_
     refine Pl.ay (by kernel_rfl) ?_
     refine Pl.ah trivial rfl rfl rfl rfl rfl ?_
     refine Pl.aI (v := (.int .i64 (((j : Nat) : Int) - 1))) trivial rfl rfl rfl rfl rfl rfl (fun X => j6 (by omega) (by omega) (by omega) X) ?_
     refine Pl.aj trivial rfl rfl rfl rfl rfl ?_
     refine Pl.ak ?_
     have Jw := Un.below QK (Ext.below cB eP)
     exact Pl.iY [(0, jm), (1, mV), (5, (.bool true)), (6, .slice (some ⟨aoY, 0, none⟩) (quo a b).length Gt), (7, zQ), (8, v_u), (9, .int .i64 (((j : Nat) : Int) - 1))] (Pl.aa rfl (Pl.aa rfl (Pl.aa rfl (Pl.aa rfl (Pl.aa rfl (Pl.aa rfl (Pl.aa rfl Pl.aK))))))) (by omega) ⟨_, _, by omega, by rw [hst.1]; exact qw, by rw [hst.2]; exact Jw, (Ext.below bW (Ext.below cB eP)), rfl⟩
theorem KC (w : World) (r0 : Value) (xa : List Nat) (u0 : U w r0 xa) (r1 : Value) (xb : List Nat) (u1 : U w r1 xb) :
  Calls Tryz.prog 7 #[r0, r1] w fun e w' => e = .returned (.bool true) ∧ Ext w w' := by
 obtain ⟨a, da⟩ : ∃ a, dG xa 25 = a := ⟨_, rfl⟩
 have hla : Sn a 25 := by rw [← da]; exact iA (iE xa 25 u0.lim)
 obtain ⟨b, db⟩ : ∃ b, dG xb 25 = b := ⟨_, rfl⟩
 have hlb : Sn b 25 := by rw [← db]; exact iA (iE xb 25 u1.lim)
 exact Us w r0 xa u0 r1 xb u1 a b da hla db hlb (lH (Sn.le hlb (by decide)))
end Go.Proofs.YtnilonnkcbkdmaaGreatDoor
namespace Go.Proofs.YtnilonnkcbkdmaaGreatDoor
open Go.ChangeShapes Go.WideShapes Go.ChangeAt Go.RowKit
set_option linter.unusedVariables false
set_option maxHeartbeats 2000000
set_option maxRecDepth 100000 in
theorem Fx (os : Os) (started : os.Started) (H : Type) (enc : TypeId × Value → H) :
  ReturnsInHanded {} Tryz.checked os 7 .any (fun w args => (Rows.gcdQuotsSpec.pre enc Tryz.prog Tryz.f7 [] false w args ∧ laidMetH Tryz.prog gQ w) ∧ sizedMet enc Tryz.prog Tryz.f7 (OpenSpec.ofChange Rows.gcdQuotsSpec) false w args)
   (Rows.gcdQuotsSpec.post enc Tryz.prog Tryz.f7 false true false false) := by
 refine returnsInHanded_of_change_and (C := Tryz.checked) (X := fun w _ => laidMetH Tryz.prog gQ w) (fun _ _ _ hh h => h.of_heap hh) own started (by kernel_rfl) Tryz.func7
  (ChangeSpec.witness_shaped (enc := enc) (C := Tryz.checked) (os := os) (X := fun w _ => laidMetH Tryz.prog gQ w) false (World.doorLaid Tryz.prog 400 os) #[.slice none 0 0, .slice none 0 0] 8 rfl (World.shaped_of_RefB (by kernel_rfl) (by kernel_rfl)) (by kernel_rfl) (by kernel_rfl) (by kernel_rfl) (jf os _)) ?_
 intro W base args ds gs before hval0 hW _ _ hL _
 have hval : ∀ (j : Nat) t v, Tryz.f7.params[j]? = some t → args[j]? = some v → Value.okWide Tryz.prog W .any base t v := hval0
 have hW' := hW
 obtain ⟨p, q, qX, hV, rfl, hfz, hnd⟩ := hW
 have hlt : ∀ x ∈ p ++ q, x.block < W.heap.size := fun x hx => hW'.lt x hx
 have hA : DataW.TrodAll enc Tryz.prog W 0 (fun _ => true) true Tryz.f7.params.toList args.toList ds p := qX
 rw [Tryz.params7] at hA hval
 clear qX hval0
 obtain ⟨v0, vs0, d0, ds0, p0, q0, yu, rfl, rfl, h0, r0⟩ := trodAll_cons hA
 obtain ⟨v1, vs1, d1, ds1, p1, q1, mh, rfl, rfl, h1, r1⟩ := trodAll_cons r0
 obtain ⟨hn1, rfl, rfl⟩ := trodAll_nil r1
 subst hn1
 subst mh
 obtain rfl : args = #[v0, v1] := by cases args; simp_all
 obtain ⟨rfl, rfl⟩ := trodVars_none hV
 obtain ⟨Tj, u0⟩ := dS (hval 0 22 v0 rfl rfl) h0 (fun x hx => hlt x (by simp [hx]))
 obtain ⟨Wo, u1⟩ := dS (hval 1 22 v1 rfl rfl) h1 (fun x hx => hlt x (by simp [hx]))
 refine (KC W _ _ u0 _ _ u1).mono fun e W' ⟨he, hB⟩ => ?_
 subst he
 exact ⟨_, rfl, jg hW' rfl (by rw [Tryz.params7]; decide +kernel) rfl rfl rfl rfl hB⟩
theorem KD : Rows.GcdQuotsSaid :=
 OpenClaim.holds_of_wide 7 Tryz.f7 rfl rfl rfl rfl rfl rfl rfl ⟨rfl, rfl, rfl, rfl, rfl⟩ rfl rfl rfl rfl rfl (by kernel_rfl) Tryz.func7 (by kernel_rfl)
  (of_decide_eq_true (by kernel_rfl)) (by unfold Func.isWrapper; first | (rw [if_pos (by decide +kernel)]; kernel_rfl) | (rw [if_neg (by decide +kernel)]; exact ⟨rfl, rfl⟩))
  (fun os started H enc _ => Fx os started H enc)
theorem gcdQuots_holds : Rows.GcdQuotsCardSaid :=
 Claim7.holds_tied_plain_at .later [] [.wider] true Rows.gcdQuotsCard.stood.harness false
  KD (fun _ h => by cases h) (by kernel_rfl) (fun _ h => by cases h) gcdQuots_row_tie rfl ⟨rfl, rfl⟩ (by kernel_rfl) rfl
  (fun f fn hf hfn => by
   obtain rfl : f = 7 := Option.some.inj ((show Tryz.prog.funcNamed "ziggurat/zigguratlaw07.GcdQuots" = some 7 by kernel_rfl).symm.trans hf) |>.symm
   obtain rfl : fn = Tryz.f7 := (Option.some.inj (Tryz.func7.symm.trans hfn)).symm
   exact ⟨by kernel_rfl, fun j t ht => by
    rw [Tryz.params7] at ht
    have hm : t ∈ [22, 22] := by simpa using Array.mem_of_getElem? ht
    have hall : ([22, 22].all fun u => !Tryz.prog.wantsStandIn u) = true := by kernel_rfl
    exact (show Tryz.prog.wantsStandIn t = false by simpa using List.all_eq_true.1 hall t hm)⟩)
  (by kernel_rfl)
end Go.Proofs.YtnilonnkcbkdmaaGreatDoor
