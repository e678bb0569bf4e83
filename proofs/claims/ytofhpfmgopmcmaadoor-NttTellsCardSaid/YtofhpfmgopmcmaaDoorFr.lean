/- What every statement's proof ends with: the table read; the arguments opened, and read again behind the call. -/
import Derived.Test.YtofhpfmgopmcmaaDoorHead
import Derived.Test.YtofhpfmgopmcmaaDoorRows
import Derived.Test.YtofhpfmgopmcmaaDoorCards
import Derived.Test.YtofhpfmgopmcmaaDoorTie
import Derived.SevenTiedAt
import Derived.LaidMore
import Derived.Stop.Joined
import Derived.JoinedOf
import Derived.JoinedAt
import Derived.Lib.SmallJoins
namespace Go.Proofs.YtofhpfmgopmcmaaDoor
open Go.ChangeShapes Go.WideShapes Go.ChangeAt Go.RowKit
set_option linter.unusedVariables false

theorem own : ownKnob Tryd.prog.godebug = none := by kernel_rfl
theorem laidOut : laidOutB Tryd.prog = true := by kernel_rfl
theorem cells32 : Tryd.prog.cellsOf 27 = 1 := by kernel_rfl
theorem cellsFd : Tryd.prog.cellsOf 56 = 5 := by kernel_rfl
theorem cellsTab : Tryd.prog.cellsOf 57 = 15 := by kernel_rfl
theorem gTab : Tryd.prog.globalNamed "ziggurat/ntt.fields" = some 0 := by kernel_rfl
theorem tTab : (Tryd.prog.globals[0]?).map (·.type) = some 57 := by kernel_rfl
abbrev laidT : List (String × DataW Unit) := [("ziggurat/ntt.fields", Rows.laid_ziggurat_ntt_fields)]

theorem fd_of_trod {H : Type} {enc : TypeId × Value → H} {W : World} {sp : Nat → Bool} {held : Bool} {m : Nat} {cs : List Value} {y : DataW H × List MemPlace}
    (h : DataW.trod enc Tryd.prog W 0 sp held m 56 cs = some y) : ∃ a b c d e : Int, cs = [.int .u32 a, .int .u32 b, .int .u32 c, .int .u32 d, .int .u32 e] ∧ y.1 = .agg [.lit (.int .u32 a), .lit (.int .u32 b), .lit (.int .u32 c), .lit (.int .u32 d), .lit (.int .u32 e)] := by
  obtain ⟨ys, n, _, rfl, hl, hlen, hf⟩ := DataW.trod_struct Tryd.underlying56 h
  rw [cellsFd] at hl
  match cs, hl, ys, hlen, hf with
  | [c0, c1, c2, c3, c4], _, [y0, y1, y2, y3, y4], _, hf =>
    have h0 := hf 0 _ rfl
    have h1 := hf 1 _ rfl
    have h2 := hf 2 _ rfl
    have h3 := hf 3 _ rfl
    have h4 := hf 4 _ rfl
    simp [cells32] at h0 h1 h2 h3 h4
    obtain ⟨a, e0, rfl, _⟩ := DataW.trod_int Tryd.underlying27 h0
    obtain ⟨b, e1, rfl, _⟩ := DataW.trod_int Tryd.underlying27 h1
    obtain ⟨c, e2, rfl, _⟩ := DataW.trod_int Tryd.underlying27 h2
    obtain ⟨d, e3, rfl, _⟩ := DataW.trod_int Tryd.underlying27 h3
    obtain ⟨e, e4, rfl, _⟩ := DataW.trod_int Tryd.underlying27 h4
    simp at e0 e1 e2 e3 e4
    subst e0 e1 e2 e3 e4
    exact ⟨a, b, c, d, e, rfl, rfl⟩

theorem gl_of_laid {W : World} (h : laidMetH Tryd.prog laidT W) : Gl W := by
  rw [MakeChecks.laidMetH_plain _ _ _ (by kernel_rfl)] at h
  obtain ⟨ps, ⟨g0, t0, cs0, f0, p0, q0, hg0, ht0, hv0, hd0, _, _⟩, _⟩ := h
  obtain rfl := Option.some.inj (gTab.symm.trans hg0)
  obtain rfl := Option.some.inj (tTab.symm.trans ht0)
  obtain ⟨xs, m1, rfl, hx1, hlen, hn3, hel⟩ := DataW.trod_array Tryd.underlying57 hd0
  rw [cellsTab] at hlen
  simp only [cellsFd] at hel
  match xs, hn3, hx1, hel with
  | [x0, x1, x2], _, hx1, hel =>
    have e0 := hel 0 (by decide)
    have e1 := hel 1 (by decide)
    have e2 := hel 2 (by decide)
    simp at e0 e1 e2
    obtain ⟨a0, b0, c0, d0, f0, k0, j0⟩ := fd_of_trod e0
    obtain ⟨a1, b1, c1, d1, f1, k1, j1⟩ := fd_of_trod e1
    obtain ⟨a2, b2, c2, d2, f2, k2, j2⟩ := fd_of_trod e2
    simp only [Prod.mk.injEq, DataW.agg.injEq, List.map_cons, List.map_nil, Rows.laid_ziggurat_ntt_fields, List.cons.injEq, j0, j1, j2, DataW.lit.injEq, Lit.int.injEq, and_true, true_and] at hx1
    obtain ⟨⟨⟨rfl, rfl, rfl, rfl, rfl⟩, ⟨rfl, rfl, rfl, rfl, rfl⟩, ⟨rfl, rfl, rfl, rfl, rfl⟩⟩, _⟩ := hx1
    obtain ⟨l⟩ := cs0
    have hl15 : l = [.int .u32 998244353, .int .u32 3, .int .u32 998244351, .int .u32 932051910, .int .u32 0, .int .u32 469762049, .int .u32 3, .int .u32 469762047, .int .u32 460175152, .int .u32 305718167, .int .u32 167772161, .int .u32 3, .int .u32 167772159, .int .u32 40265974, .int .u32 115614034] := by
      have e : l = l.take 5 ++ ((l.drop 5).take 5 ++ (l.drop 10).take 5) := by
        have h10 : l.drop 10 = (l.drop 5).drop 5 := by rw [List.drop_drop]
        have h5 : (l.drop 10).take 5 = l.drop 10 := List.take_of_length_le (by simp at hlen; simp [hlen])
        rw [h5, h10, List.take_append_drop, List.take_append_drop]
      rw [e, k0, k1, k2]; rfl
    subst hl15
    have hc := fun k => World.var?_cell hg0 hv0 k
    refine ⟨?_, ⟨hc 0, hc 1, hc 2, hc 3, hc 4⟩, ⟨hc 5, hc 6, hc 7, hc 8, hc 9⟩, ⟨hc 10, hc 11, hc 12, hc 13, hc 14⟩⟩
    have := World.block_lt_of_cell? W ⟨0, 0, none⟩ (hc 0)
    exact this

/-- The heap that the program's own text lays meets the condition. -/
theorem door_met (os : Os) (args : Array Value) : laidMetH Tryd.prog laidT ((World.doorLaid Tryd.prog 400 os).forCall (fun _ _ => 0) ⟨#[], args, []⟩).memory :=
  laidMetH_of_parts3 (fuel := 8) (laidMet_of_run' 8 (by kernel_rfl) (by kernel_rfl)) (by kernel_rfl) (by kernel_rfl)

/-- All arguments read behind a call that turns nothing as they read before it. -/
theorem trodAll_after {H : Type} {enc : TypeId × Value → H} {W W' : World} {sp : Nat → Bool} (hB : Ext W W') : ∀ {ts : List TypeId} {vs : List Value} {ds : List (DataW H)} {ps : List MemPlace},
    (∀ t ∈ ts, Tryd.prog.readableRec t = true ∧ t < Tryd.prog.types.size) → DataW.TrodAll enc Tryd.prog W 0 (fun _ => true) true ts vs ds ps → (∀ p ∈ ps, p.block < W.heap.size) → (∀ p ∈ ps, sp p.block = true) → DataW.TrodAll enc Tryd.prog W' 0 sp true ts vs ds ps
  | [], [], [], _, _, h, _, _ => h
  | t :: _, _ :: _, _ :: _, _, hT, ⟨p, q, h1, h2, e⟩, hlt, hs => ⟨p, q,
      WideElems.Trod_stays laidOut (hT t (List.mem_cons_self ..)).1 (hT t (List.mem_cons_self ..)).2 h1 (fun x hx => Below.same hB (hlt x (by rw [e]; exact List.mem_append_left _ hx))) (fun x hx => hs x (by rw [e]; exact List.mem_append_left _ hx)),
      trodAll_after hB (fun t ht => hT t (List.mem_cons_of_mem _ ht)) h2 (fun x hx => hlt x (by rw [e]; exact List.mem_append_right _ hx)) (fun x hx => hs x (by rw [e]; exact List.mem_append_right _ hx)), e⟩

/-- WHAT A STATEMENT ASKS BEHIND THE CALL: true; the arguments read as they did. -/
theorem law_post {H : Type} {enc : TypeId × Value → H} {f : Func} {s : ChangeSpec} {apart fresh handsOn again : Bool} {W W' : World} {args : Array Value} {ds gs : List (DataW H)} {before : List MemPlace}
    (hW : DataW.Whole enc Tryd.prog f.params.toList s.vars apart W args.toList ds gs before) (hv : s.vars = []) (hT : ∀ t ∈ f.params.toList, Tryd.prog.readableRec t = true ∧ t < Tryd.prog.types.size)
    (hres : f.resultTypes = #[4]) (hfn : (s.fn H (ds ++ gs)).results = [.lit (.bool true)]) (hfa : (s.fn H (ds ++ gs)).args = ds) (hfv : (s.fn H (ds ++ gs)).vars = []) (hB : Ext W W') :
    s.post enc Tryd.prog f apart fresh handsOn again W args (.bool true) W' := by
  have hlt : ∀ p ∈ before, p.block < W.heap.size := fun p hp => hW.lt p hp
  have hold : ∀ p ∈ before, (fun b => decide (b < W.heap.size)) p.block = true := fun p hp => by simpa using hlt p hp
  have hres' : ∀ (b : Nat) (sp : Nat → Bool) (hd : Bool), DataW.TrodAll enc Tryd.prog W' b sp hd f.resultTypes.toList ((Value.bool true).resultList f.resultTypes.size) (s.fn H (ds ++ gs)).results [] := by
    intro b sp hd
    rw [hres, hfn]
    exact trodAll_mk1 (shut_bool Tryd.underlying4 _)
  have hW2 := hW
  obtain ⟨p, q, hA, hV, hpq, hz, hn⟩ := hW
  rw [hv] at hV
  obtain ⟨_, rfl⟩ := trodVars_none hV
  rw [List.append_nil] at hpq
  subst hpq
  have hargs : ∀ sp : Nat → Bool, (∀ p' ∈ before, sp p'.block = true) → DataW.TrodAll enc Tryd.prog W' 0 sp true f.params.toList args.toList (s.fn H (ds ++ gs)).args before := fun sp hs => by
    rw [hfa]; exact trodAll_after hB hT hA hlt hs
  have hvars : ∀ sp : Nat → Bool, DataW.TrodVars enc Tryd.prog W' sp s.vars (s.fn H (ds ++ gs)).vars [] := fun sp => by rw [hv, hfv]; exact rfl
  refine ⟨ds, gs, before, [], before, [], hW2, hres' _ _ _, hargs _ hold, hvars _, World.keptBut_mono (fun p hp => ⟨hp, ?_⟩) (Below.frame hB (· ∈ before)), fun _ => ?_⟩
  · simpa using hp
  · refine ⟨ok_one hres rfl (okWide_bool_mk Tryd.underlying4 _), _, _, ([] ++ before) ++ [], ⟨[] ++ before, [], trodAll_append (hargs _ (fun _ _ => rfl)) (hres' _ _ _), hvars _, rfl, ?_, ?_⟩, ?_⟩
    · intro b off hp
      have hin : MemPlace.cell b off ∈ before := by simpa using hp
      rw [Below.frozen hB (hlt _ hin)]
      exact hz b off hin
    · intro ha
      have := hn ha
      simpa using this
    · intro p hp _
      simpa using hp

/-- A slice of 32-bit limbs among the arguments. -/
theorem open_limbs {H : Type} {enc : TypeId × Value → H} {W : World} {base : Nat} {v : Value} {d : DataW H} {ps : List MemPlace} (hval : Value.okWide Tryd.prog W .any base 22 v) (h : DataW.Trod enc Tryd.prog W 0 (fun _ => true) true 22 v d ps)
    (hlt : ∀ p ∈ ps, p.block < W.heap.size) : ∃ xs : List Nat, U W v xs := by
  obtain ⟨a0, len, cap, rfl⟩ := okWide_slice Tryd.underlying22 hval
  obtain ⟨fuel, hf⟩ := h
  rcases open_ints Tryd.underlying22 Tryd.underlying27 cells32 hf with ⟨hcs, hx⟩ | ⟨a, len', cap', zs, hcs, _, hl, hm, hz, hx, hcell, hwz⟩
  · simp [Value.cells] at hcs
    obtain ⟨rfl, rfl, rfl⟩ := hcs
    exact ⟨[], U.nil_ _ _ _⟩
  · simp [Value.cells] at hcs
    obtain ⟨rfl, rfl, rfl⟩ := hcs
    simp only [if_true] at hz
    have hlen : ((zs.take len).map Int.toNat).length = len := by simp; omega
    have hb : ∀ z ∈ zs, 0 ≤ z ∧ z < 4294967296 := fun z hzz => by have := bounds_u32 (hwz z hzz); omega
    refine ⟨(zs.take len).map Int.toNat, some a, cap, by rw [hlen], ⟨by rw [hlen]; exact hl, by rw [hlen]; unfold maxLen at hm; omega⟩, ?_, fun h0 => ⟨a, rfl, ?_, fun j hj => ?_⟩⟩
    · intro x hx'
      obtain ⟨z, hz1, rfl⟩ := List.mem_map.1 hx'
      have := hb z (List.mem_of_mem_take hz1)
      omega
    · rw [hlen] at h0
      have hc := hcell 0 (by omega)
      rw [addr_add_zero] at hc
      unfold World.cell? at hc
      rcases Nat.lt_or_ge a.block W.heap.size with h | h
      · exact h
      · rw [Array.getElem?_eq_none h] at hc; cases hc
    · rw [hlen] at hj
      have hjz : j < zs.length := by omega
      have e : lb ((zs.take len).map Int.toNat) j = (zs.getD j 0).toNat := by
        simp [lb, hj, hjz]
      rw [hcell j hjz, e]
      have hmem : zs.getD j 0 ∈ zs := by simp [hjz]
      have := hb _ hmem
      rw [show (((zs.getD j 0).toNat : Nat) : Int) = zs.getD j 0 by omega]
end Go.Proofs.YtofhpfmgopmcmaaDoor
