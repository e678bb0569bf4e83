/- What every statement's proof ends with: the variables that are laid; the arguments read again behind the call. -/
import Derived.Test.YtmioaeaobefphaaDoorBap
import Derived.Test.YtmioaeaobefphaaDoorRows
import Derived.Test.YtmioaeaobefphaaDoorCards
import Derived.Test.YtmioaeaobefphaaDoorTie
import Derived.SevenTiedAt
import Derived.LaidMore
import Derived.LaidHandle
import Derived.LaidLaws
import Derived.Lay
import Derived.LaidOnce
import Derived.Stop.Joined
import Derived.JoinedOf
import Derived.JoinedAt
import Derived.Lib.SmallJoins

namespace Go.Proofs.YtmioaeaobefphaaDoor
open Go.ChangeShapes Go.WideShapes Go.ChangeAt Go.RowKit
set_option linter.unusedVariables false
set_option maxRecDepth 100000

theorem own : ownKnob Tryd.prog.godebug = none := by kernel_rfl
theorem laidOut : laidOutB Tryd.prog = true := by kernel_rfl
theorem cells32 : Tryd.prog.cellsOf 33 = 1 := by kernel_rfl
theorem cells8 : Tryd.prog.cellsOf 5 = 1 := by kernel_rfl
theorem cellsTab : Tryd.prog.cellsOf 66 = 16 := by kernel_rfl
theorem gTab : Tryd.prog.globalNamed "ziggurat/store.nibbles" = some 0 := by kernel_rfl
theorem tTab : (Tryd.prog.globals[0]?).map (·.type) = some 66 := by kernel_rfl
theorem gErr : Tryd.prog.globalNamed "errors.errorType" = some 1 := by kernel_rfl
theorem rtErr : (Tryd.prog.cutTypes.find? (·.1 == "internal/reflectlite.rtype")).map (·.2) = some 87 := by kernel_rfl
theorem oneErr : ((List.range Tryd.prog.types.size).filter fun t => Tryd.prog.rowNamed t [101, 114, 114, 111, 114]) = [58] := by kernel_rfl
theorem hdlErr : typeHandle Tryd.prog 58 = .pointer (some ⟨2, 58, none⟩) := by kernel_rfl
abbrev laidV : List (String × DataW Unit) := [("errors.errorType", Rows.laid_errors_errorType), ("ziggurat/store.nibbles", Rows.laid_ziggurat_store_nibbles)]
abbrev tabL : List Int := [0, 498536548, 997073096, 651767980, 1994146192, 1802195444, 1303535960, 1342533948, 3988292384, 4027552580, 3604390888, 3412177804, 2607071920, 2262029012, 2685067896, 3183342108]
theorem tab_s4 : ∀ j, j < 16 → tabL[j]? = some ((T.s4 j : Nat) : Int) := by decide +kernel
theorem gl_of_laid {W : World} (h : laidMetH Tryd.prog laidV W) : Gl W := by
  have h' : laidMet Tryd.prog [("ziggurat/store.nibbles", Rows.laid_ziggurat_store_nibbles)] W ∧ handlesMet Tryd.prog [("errors.errorType", Rows.laid_errors_errorType)] W := h
  obtain ⟨hd, hh⟩ := h'
  obtain ⟨name, u, ty, e1, e2, e3, e4, e5⟩ := hh _ (List.mem_singleton.2 rfl)
  have en : name = [101, 114, 114, 111, 114] := (Option.some.inj e1).symm
  subst en
  obtain rfl := Option.some.inj (rtErr.symm.trans e2)
  have hm : ty ∈ (List.range Tryd.prog.types.size).filter fun t => Tryd.prog.rowNamed t [101, 114, 114, 111, 114] := List.mem_filter.2 ⟨List.mem_range.2 e3, e4⟩
  rw [oneErr] at hm
  obtain rfl := List.mem_singleton.1 hm
  rw [hdlErr] at e5
  have hE : W.cell? ⟨1, 0, none⟩ = some (.iface 87 (.agg #[.pointer (some ⟨2, 58, none⟩)])) := by simpa using World.var?_cell gErr e5 0
  obtain ⟨ps, ⟨g0, t0, cs0, f0, p0, q0, hg0, ht0, hv0, hd0, _, _⟩, _⟩ := hd
  obtain rfl := Option.some.inj (gTab.symm.trans hg0)
  obtain rfl := Option.some.inj (tTab.symm.trans ht0)
  obtain ⟨xs, m1, rfl, hx1, hlen, hn3, hel⟩ := DataW.trod_array Tryd.underlying66 hd0
  rw [cellsTab] at hlen
  simp only [cells32, Nat.mul_one] at hel
  have hc := fun k => World.var?_cell hg0 hv0 k
  have hx2 : xs.map (·.1) = tabL.map fun z => (.lit (.int .u32 z) : DataW Unit) := by
    have := congrArg Prod.fst hx1
    simp only [Rows.laid_ziggurat_store_nibbles, DataW.agg.injEq] at this
    rw [← this]; rfl
  refine ⟨fun j hj => ?_, hE, World.block_lt_of_cell? W ⟨1, 0, none⟩ hE⟩
  have h1 := hel j hj
  have h2 := tab_s4 j hj
  have hjl : j < xs.length := by omega
  rw [List.getElem?_eq_getElem hjl] at h1
  obtain ⟨z, e0, e1, _⟩ := DataW.trod_int Tryd.underlying33 h1
  have h3 : (xs.map (·.1))[j]? = some (.lit (.int .u32 z)) := by rw [List.getElem?_map, List.getElem?_eq_getElem hjl, Option.map_some, e1]
  rw [hx2, List.getElem?_map, h2, Option.map_some] at h3
  simp only [Option.some.injEq, DataW.lit.injEq, Lit.int.injEq, true_and] at h3
  subst h3
  have h4 := hc j
  have hjc : j < cs0.toList.length := by omega
  rw [List.drop_eq_getElem_cons hjc] at e0
  simp only [List.take_succ_cons, List.take_zero, List.cons.injEq, and_true] at e0
  have h5 : cs0[j]? = some (.int .u32 ((T.s4 j : Nat) : Int)) := by
    rw [← Array.getElem?_toList, List.getElem?_eq_getElem hjc, e0]
  exact h4.trans h5
theorem door_met (os : Os) (args : Array Value) : laidMetH Tryd.prog laidV ((World.doorLaid Tryd.prog 400 os).forCall (fun _ _ => 0) ⟨#[], args, []⟩).memory :=
  laidMetH_of_parts3 (fuel := 8) (laidMet_of_run' 8 (by kernel_rfl) (by kernel_rfl)) (by kernel_rfl) (by kernel_rfl)

/-- All arguments read behind a call that turns nothing as they read before it. -/
theorem trodAll_after {H : Type} {enc : TypeId × Value → H} {W W' : World} {sp : Nat → Bool} (hB : Pl.Ex W W') : ∀ {ts : List TypeId} {vs : List Value} {ds : List (DataW H)} {ps : List MemPlace},
    (∀ t ∈ ts, Tryd.prog.readableRec t = true ∧ t < Tryd.prog.types.size) → DataW.TrodAll enc Tryd.prog W 0 (fun _ => true) true ts vs ds ps → (∀ p ∈ ps, p.block < W.heap.size) → (∀ p ∈ ps, sp p.block = true) → DataW.TrodAll enc Tryd.prog W' 0 sp true ts vs ds ps
  | [], [], [], _, _, h, _, _ => h
  | t :: _, _ :: _, _ :: _, _, hT, ⟨p, q, h1, h2, e⟩, hlt, hs => ⟨p, q,
      WideElems.Trod_stays laidOut (hT t (List.mem_cons_self ..)).1 (hT t (List.mem_cons_self ..)).2 h1 (fun x hx => Below.same hB (hlt x (by rw [e]; exact List.mem_append_left _ hx))) (fun x hx => hs x (by rw [e]; exact List.mem_append_left _ hx)),
      trodAll_after hB (fun t ht => hT t (List.mem_cons_of_mem _ ht)) h2 (fun x hx => hlt x (by rw [e]; exact List.mem_append_right _ hx)) (fun x hx => hs x (by rw [e]; exact List.mem_append_right _ hx)), e⟩

/-- WHAT A STATEMENT ASKS BEHIND THE CALL: true; the arguments read as they did. -/
theorem law_post {H : Type} {enc : TypeId × Value → H} {f : Func} {s : ChangeSpec} {apart fresh handsOn again : Bool} {W W' : World} {args : Array Value} {ds gs : List (DataW H)} {before : List MemPlace}
    (hW : DataW.Whole enc Tryd.prog f.params.toList s.vars apart W args.toList ds gs before) (hv : s.vars = []) (hT : ∀ t ∈ f.params.toList, Tryd.prog.readableRec t = true ∧ t < Tryd.prog.types.size)
    (hres : f.resultTypes = #[4]) (hfn : (s.fn H (ds ++ gs)).results = [.lit (.bool true)]) (hfa : (s.fn H (ds ++ gs)).args = ds) (hfv : (s.fn H (ds ++ gs)).vars = []) (hB : Pl.Ex W W') :
    s.post enc Tryd.prog f apart fresh handsOn again W args (.bool true) W' := by
  have hlt : ∀ p ∈ before, p.block < W.heap.size := fun p hp => hW.lt p hp
  have hold : ∀ p ∈ before, (fun b => decide (b < W.heap.size)) p.block = true := fun p hp => by simpa using hlt p hp
  have hres' : ∀ (b : Nat) (sp : Nat → Bool) (hd : Bool), DataW.TrodAll enc Tryd.prog W' b sp hd f.resultTypes.toList ((Value.bool true).resultList f.resultTypes.size) (s.fn H (ds ++ gs)).results [] := by
    intro b sp hd
    rw [hres, hfn]
    exact trodAll_mk1 (shut_bool Tryd.underlying4 _)
  have hW2 := hW
  obtain ⟨p, q, hA, hV, hpq, hz, hn⟩ := hW
  rw [hv] at hV
  obtain ⟨_, rfl⟩ := trodVars_none hV
  rw [List.append_nil] at hpq
  subst hpq
  have hargs : ∀ sp : Nat → Bool, (∀ p' ∈ before, sp p'.block = true) → DataW.TrodAll enc Tryd.prog W' 0 sp true f.params.toList args.toList (s.fn H (ds ++ gs)).args before := fun sp hs => by
    rw [hfa]; exact trodAll_after hB hT hA hlt hs
  have hvars : ∀ sp : Nat → Bool, DataW.TrodVars enc Tryd.prog W' sp s.vars (s.fn H (ds ++ gs)).vars [] := fun sp => by rw [hv, hfv]; exact rfl
  refine ⟨ds, gs, before, [], before, [], hW2, hres' _ _ _, hargs _ hold, hvars _, World.keptBut_mono (fun p hp => ⟨hp, ?_⟩) (Below.frame hB (· ∈ before)), fun _ => ?_⟩
  · simpa using hp
  · refine ⟨ok_one hres rfl (okWide_bool_mk Tryd.underlying4 _), _, _, ([] ++ before) ++ [], ⟨[] ++ before, [], trodAll_append (hargs _ (fun _ _ => rfl)) (hres' _ _ _), hvars _, rfl, ?_, ?_⟩, ?_⟩
    · intro b off hp
      have hin : MemPlace.cell b off ∈ before := by simpa using hp
      rw [Below.frozen hB (hlt _ hin)]
      exact hz b off hin
    · intro ha
      have := hn ha
      simpa using this
    · intro p hp _
      simpa using hp

end Go.Proofs.YtmioaeaobefphaaDoor
/- The arguments of stage 30, opened. -/
namespace Go.Proofs.YtmioaeaobefphaaDoor
open Go.ChangeShapes Go.WideShapes Go.ChangeAt Go.RowKit
set_option linter.unusedVariables false
set_option linter.unusedSimpArgs false
set_option maxRecDepth 100000
theorem mkS_data (s : ByteArray) : mkS s.data.toList = s := by
  apply ByteArray.ext
  simp [mkS]
/-- Bytes among the arguments. -/
theorem open_bytes {H : Type} {enc : TypeId × Value → H} {W : World} {base : Nat} {v : Value} {d : DataW H} {ps : List MemPlace} (hval : Value.okWide Tryd.prog W .any base 22 v) (h : DataW.Trod enc Tryd.prog W 0 (fun _ => true) true 22 v d ps)
    (hlt : ∀ p ∈ ps, p.block < W.heap.size) : ∃ bs : T.Byt, By W 0 v bs := by
  obtain ⟨a0, len, cap, rfl⟩ := okWide_slice Tryd.underlying22 hval
  obtain ⟨fuel, hf⟩ := h
  rcases open_ints Tryd.underlying22 Tryd.underlying5 cells8 hf with ⟨hcs, hx⟩ | ⟨a, len', cap', zs, hcs, _, hl, hm, hz, hx, hcell, hwz⟩
  · simp [Value.cells] at hcs
    obtain ⟨rfl, rfl, rfl⟩ := hcs
    exact ⟨[], By.nil _ _⟩
  · simp [Value.cells] at hcs
    obtain ⟨rfl, rfl, rfl⟩ := hcs
    simp only [if_true] at hz
    have hb : ∀ z ∈ zs, 0 ≤ z ∧ z < 256 := fun z hzz => by have := bounds_u8 (hwz z hzz); omega
    refine ⟨(zs.take len).map fun z => UInt8.ofNat z.toNat, some a, cap, by simp; omega, by simp; omega, by unfold maxLen at hm; omega, fun h0 => ⟨a, rfl, Nat.zero_le _, ?_, fun j u hj => ?_⟩⟩
    · simp [cB] at h0
      have hc := hcell 0 (by omega)
      rw [show a.add 0 = a by simp [Addr.add]] at hc
      unfold World.cell? at hc
      rcases Nat.lt_or_ge a.block W.heap.size with h | h
      · exact h
      · rw [Array.getElem?_eq_none h] at hc; cases hc
    · have hjl : j < (cB ((zs.take len).map fun z => UInt8.ofNat z.toNat)).length := (List.getElem?_eq_some_iff.1 hj).1
      rw [cB_len] at hjl
      have hjl2 : j < ((zs.take len).map fun z => UInt8.ofNat z.toNat).length := hjl
      simp at hjl2
      have hjz : j < zs.length := by omega
      rw [cB_get hjl] at hj
      cases hj
      rw [hcell j hjz]
      have hmem : zs.getD j 0 ∈ zs := by simp [hjz]
      have h1 := hb _ hmem
      simp [hjz, List.getElem_take] at *
      omega
/-- A pair of texts. -/
theorem open_entry {H : Type} {enc : TypeId × Value → H} {W : World} {base : Nat} {v : Value} {d : DataW H} {ps : List MemPlace} (hval : Value.okWide Tryd.prog W .any base 24 v) (h : DataW.Trod enc Tryd.prog W 0 (fun _ => true) true 24 v d ps) :
    ∃ e0 : T.Ent, v = .agg #[.string (mkS e0.1), .string (mkS e0.2)] := by
  obtain ⟨v0, v1, y0, y1, n, rfl, rfl, rfl, h0, h1⟩ := Joins.open_agg2 Tryd.underlying24 (by kernel_rfl) (by kernel_rfl) hval h
  obtain ⟨s0, e0, _⟩ := DataW.trod_string Tryd.underlying9 h0
  obtain ⟨s1, e1, _⟩ := DataW.trod_string Tryd.underlying9 h1
  simp at e0 e1
  subst e0 e1
  exact ⟨(s0.data.toList, s1.data.toList), by rw [mkS_data, mkS_data]⟩
theorem cE_spec {l : List T.Ent} {j : Nat} {u : Value} (h : (cE l)[j]? = some u) : ∃ i, ∃ hi : i < l.length, (j = i * 2 ∧ u = .string (mkS l[i].1)) ∨ (j = i * 2 + 1 ∧ u = .string (mkS l[i].2)) := by
  have hj := (List.getElem?_eq_some_iff.1 h).1
  rw [cE_len] at hj
  have hi : j / 2 < l.length := by omega
  obtain ⟨h1, h2⟩ := cE_at l (j / 2) hi
  refine ⟨j / 2, hi, ?_⟩
  rcases Nat.mod_two_eq_zero_or_one j with hm | hm
  · have e : j / 2 * 2 = j := by omega
    rw [e, h] at h1
    exact .inl ⟨e.symm, Option.some.inj h1⟩
  · have e : j / 2 * 2 + 1 = j := by omega
    rw [e, h] at h2
    exact .inr ⟨e.symm, Option.some.inj h2⟩
/-- Entries among the arguments. -/
theorem open_entries {H : Type} {enc : TypeId × Value → H} {W : World} {base : Nat} {v : Value} {d : DataW H} {ps : List MemPlace} (hval : Value.okWide Tryd.prog W .any base 29 v) (h : DataW.Trod enc Tryd.prog W 0 (fun _ => true) true 29 v d ps)
    (hlt : ∀ p ∈ ps, p.block < W.heap.size) : ∃ l : List T.Ent, Es W 0 v l := by
  obtain ⟨a0, len, cap, rfl⟩ := okWide_slice Tryd.underlying29 hval
  obtain ⟨fuel, hf⟩ := h
  rcases DataW.trod_slice Tryd.underlying29 hf with h0 | ⟨a, len', cap', elems, rest, n, _, hcs, _, hb, hl, hm, hlen, hel, hsp, hns⟩
  · have hcs := h0.1
    simp [Value.cells] at hcs
    obtain ⟨rfl, rfl, rfl⟩ := hcs
    exact ⟨[], Pl.Sl.nil _ _⟩
  · simp [Value.cells] at hcs
    obtain ⟨rfl, rfl, rfl⟩ := hcs
    have hce : Tryd.prog.cellsOf 24 = 2 := by kernel_rfl
    have hc1 : Tryd.prog.cellsOf 9 = 1 := by kernel_rfl
    have each : ∀ i, i < len → ∃ e0 : T.Ent, W.cell? (a.add (i * 2)) = some (.string (mkS e0.1)) ∧ W.cell? (a.add (i * 2 + 1)) = some (.string (mkS e0.2)) := by
      intro i hi
      have hi' := hel i hi
      rw [hce] at hi'
      rw [List.getElem?_eq_getElem (by rw [hlen]; exact hi)] at hi'
      obtain ⟨l, hl1, hl2⟩ := Option.bind_eq_some_iff.1 hi'
      obtain ⟨_, hll, hlc⟩ := World.cells?_some hl1
      match l, hll with
      | [c0, c1], _ =>
        obtain ⟨xs, m, _, _, _, hx, hf2⟩ := DataW.trod_struct Tryd.underlying24 hl2
        have hx2 : xs.length = 2 := hx
        match xs, hx2, hf2 with
        | [y0, y1], _, hf2 =>
          have t0 := hf2 0 _ rfl
          have t1 := hf2 1 _ rfl
          simp [hc1] at t0 t1
          obtain ⟨s0, e0, _⟩ := DataW.trod_string Tryd.underlying9 t0
          obtain ⟨s1, e1, _⟩ := DataW.trod_string Tryd.underlying9 t1
          simp at e0 e1
          subst e0 e1
          have k0 := hlc 0 (by decide)
          have k1 := hlc 1 (by decide)
          rw [show (a.add (i * 2)).add 0 = a.add (i * 2) by rw [add_add]; rfl] at k0
          rw [add_add] at k1
          exact ⟨(s0.data.toList, s1.data.toList), by rw [mkS_data]; simpa using k0, by rw [mkS_data]; simpa using k1⟩
    obtain ⟨f, hf3⟩ : ∃ f : Nat → T.Ent, ∀ i, i < len → W.cell? (a.add (i * 2)) = some (.string (mkS (f i).1)) ∧ W.cell? (a.add (i * 2 + 1)) = some (.string (mkS (f i).2)) :=
      ⟨fun i => if h : i < len then (each i h).choose else ([], []), fun i h => by simp only [h, dif_pos]; exact (each i h).choose_spec⟩
    refine ⟨(List.range len).map f, some a, cap, by simp, by simp; omega, by unfold maxLen at hm; omega, fun h0 => ⟨a, rfl, Nat.zero_le _, ?_, fun j u hj => ?_⟩⟩
    · rw [cE_len] at h0
      simp at h0
      have hc := (hf3 0 (by omega)).1
      rw [show a.add (0 * 2) = a by simp [Addr.add]] at hc
      unfold World.cell? at hc
      rcases Nat.lt_or_ge a.block W.heap.size with h | h
      · exact h
      · rw [Array.getElem?_eq_none h] at hc; cases hc
    · obtain ⟨i, hi, h1⟩ := cE_spec hj
      have hi2 : i < len := by simpa using hi
      obtain ⟨k0, k1⟩ := hf3 i hi2
      simp only [List.getElem_map, List.getElem_range] at h1
      rcases h1 with ⟨rfl, rfl⟩ | ⟨rfl, rfl⟩
      · exact k0
      · exact k1
end Go.Proofs.YtmioaeaobefphaaDoor
