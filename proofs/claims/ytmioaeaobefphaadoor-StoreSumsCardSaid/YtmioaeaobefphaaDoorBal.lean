/- errors.As: at nil, and at the program's own error. -/
import Derived.Test.YtmioaeaobefphaaDoorBak
import Derived.LaidEql
import Derived.Stop.Asserts
import Derived.RowKitTokens
import Derived.OwnWalk
import Derived.RegionTactic
import Derived.LoopTactic
import Derived.BigQuiet
import Derived.JoinedCond
import Derived.OpenShut
import Derived.ProofKit
import Derived.Deep.QuietTactic

namespace Go.Proofs.YtmioaeaobefphaaDoor
open Go.RowKit Go.Extern.Stop Go.Stop Go.Extern
set_option linter.unusedVariables false
set_option linter.unusedSimpArgs false
/-- errors.As(nil, target). -/
theorem as_nil (t : Value) (w : World) :
    Calls Tryd.prog 29 #[.nilIface, t] w fun e w' => e = .returned (.bool false) ∧ w' = w := by
  go_enter Tryd.func29, Tryd.ntmps29
  go_wp2
  go_ret
  exact ⟨rfl, rfl⟩

/-! ### CLOSED FACTS ON THE MODEL's ENTRIES FOR internal/reflectlite, at this program's types: 25: *p.E · 27: **p.E · 23: error · 45: reflectlite's rtype · 1: how many package-level variables the dump has -/
theorem rf_valueOf27 (t : Addr) (w : World) : (ReflectliteValue.unpack (.iface 62 (.pointer (some t)))).run Tryd.prog w
    = .ok (.agg #[.pointer (some ⟨2, 62, none⟩), .pointer (some ⟨w.heap.size, 0, none⟩), .int .u64 150]) (w.alloc (.cells #[.pointer (some t)] 62)) := by kernel_rfl
theorem rf_type27 (a : Addr) (w : World) : (ReflectliteValue.methodAny (ReflectliteValue.valueError "reflectlite.Value.Type" 0) (fun t _ _ _ => ReflectliteType.toType t) #[.agg #[.pointer (some ⟨2, 62, none⟩), .pointer (some a), .int .u64 150]]).run Tryd.prog w
    = .ok (.iface 87 (.agg #[.pointer (some ⟨2, 62, none⟩)])) w := by kernel_rfl
theorem rf_methodKind (h : Value) (w : World) : (Go.method 228 87 (.agg #[h]) "Kind").run Tryd.prog w = .ok (60, h) w := by kernel_rfl
theorem rf_kind27 (w : World) : ((ReflectliteType.abiMethod fun t => (fun a : Nat => Value.int IntKind.u8 (a : Int)) <$> Rtype.kind t) #[.pointer (some ⟨2, 62, none⟩)]).run Tryd.prog w = .ok (.int .u8 22) w := by kernel_rfl
theorem rf_kind25 (w : World) : ((ReflectliteType.abiMethod fun t => (fun a : Nat => Value.int IntKind.u8 (a : Int)) <$> Rtype.kind t) #[.pointer (some ⟨2, 60, none⟩)]).run Tryd.prog w = .ok (.int .u8 25) w := by kernel_rfl

/-! ### THE ENTRIES THAT READ OR WRITE MEMORY: laws with a premise on the cell (after Derived/Lib/ReflectliteSlice.lean's manner: each unfolding a lemma of its own, by rfl) -/
theorem rlm (z : Sem Value) (f : TypeId → Addr → Nat → Nat → Sem Value) (v : Value) :
    ReflectliteValue.method z f #[v] = (do match ← ReflectliteValue.parts v with | none => z | some (t, a, fl) => f t a fl (fl % 32)) := rfl
theorem rf_parts27 (a : Addr) (w : World) : (ReflectliteValue.parts (.agg #[.pointer (some ⟨2, 62, none⟩), .pointer (some a), .int .u64 150])).run Tryd.prog w = .ok (some (62, a, 150)) w := by kernel_rfl
/-- (Value).IsNil at the Value of a **p.E that is not nil. -/
theorem rf_isNil27 (a p : Addr) (W : World) (ha : W.cell? a = some (.pointer (some p))) :
    (ReflectliteValue.method (ReflectliteValue.valueError "reflectlite.Value.IsNil" 0) ReflectliteValue.isNil #[.agg #[.pointer (some ⟨2, 62, none⟩), .pointer (some a), .int .u64 150]]).run Tryd.prog W = .ok (.bool false) W := by
  rw [rlm]
  simp only [Sem.run_bind, rf_parts27, Result.andThen]
  simp [ReflectliteValue.isNil, loadVar, isAgg, underlying, Tryd.underlying62, ha, Result.andThen]

theorem rf_methodElem (h : Value) (w : World) : (Go.method 228 87 (.agg #[h]) "Elem").run Tryd.prog w = .ok (71, .agg #[h]) w := by kernel_rfl
theorem rf_methodImplements (h : Value) (w : World) : (Go.method 228 87 (.agg #[h]) "Implements").run Tryd.prog w = .ok (72, .agg #[h]) w := by kernel_rfl
theorem rf_methodAssignableTo (h : Value) (w : World) : (Go.method 228 87 (.agg #[h]) "AssignableTo").run Tryd.prog w = .ok (69, .agg #[h]) w := by kernel_rfl
theorem rf_elem27 (w : World) : (ReflectliteType.method ReflectliteType.elem #[.agg #[.pointer (some ⟨2, 62, none⟩)]]).run Tryd.prog w = .ok (.iface 87 (.agg #[.pointer (some ⟨2, 60, none⟩)])) w := by kernel_rfl
theorem rf_implements25 (w : World) : (ReflectliteType.relation "Implements" ReflectliteType.implements_ #[.agg #[.pointer (some ⟨2, 60, none⟩)], .iface 87 (.agg #[.pointer (some ⟨2, 58, none⟩)])]).run Tryd.prog w = .ok (.bool true) w := by kernel_rfl
theorem rf_typeOf25 (v : Value) (w : World) : (ReflectliteType.typeOf #[.iface 60 v]).run Tryd.prog w = .ok (.iface 87 (.agg #[.pointer (some ⟨2, 60, none⟩)])) w := by kernel_rfl
theorem rf_assignable25 (w : World) : (ReflectliteType.relation "AssignableTo" ReflectliteType.assignableTo #[.agg #[.pointer (some ⟨2, 60, none⟩)], .iface 87 (.agg #[.pointer (some ⟨2, 60, none⟩)])]).run Tryd.prog w = .ok (.bool true) w := by kernel_rfl
theorem rf_valueOf25 (c : Int) (w : World) : (ReflectliteValue.unpack (.iface 60 (.agg #[.int .i64 c]))).run Tryd.prog w
    = .ok (.agg #[.pointer (some ⟨2, 60, none⟩), .pointer (some ⟨w.heap.size, 0, none⟩), .int .u64 153]) (w.alloc (.cells #[.int .i64 c] 60)) := by kernel_rfl

theorem rf_elemOf27 (w : World) : (Rtype.elem? 62).run Tryd.prog w = .ok (some 60) w := by kernel_rfl
theorem rf_mk25 (p : Addr) (w : World) : (ReflectliteValue.mk 60 p ReflectliteValue.flagAddr).run Tryd.prog w = .ok (.agg #[.pointer (some ⟨2, 60, none⟩), .pointer (some p), .int .u64 409]) w := by kernel_rfl
/-- (Value).Elem at the Value of a **p.E that is not nil: the Value of the *p.E variable that it points to, addressable. -/
theorem rf_elemV27 (a p : Addr) (W : World) (ha : W.cell? a = some (.pointer (some p))) :
    (ReflectliteValue.method (ReflectliteValue.valueError "reflectlite.Value.Elem" 0) ReflectliteValue.elem #[.agg #[.pointer (some ⟨2, 62, none⟩), .pointer (some a), .int .u64 150]]).run Tryd.prog W
      = .ok (.agg #[.pointer (some ⟨2, 60, none⟩), .pointer (some p), .int .u64 409]) W := by
  rw [rlm]
  simp only [Sem.run_bind, rf_parts27, Result.andThen]
  simp [ReflectliteValue.elem, loadVar, isAgg, underlying, Tryd.underlying62, ha, Result.andThen, rf_elemOf27, rf_mk25]
theorem rls (v x : Value) : ReflectliteValue.set #[v, x] = (do
    let (some (dst, a, fl), some (src, b, _)) := (← ReflectliteValue.parts v, ← ReflectliteValue.parts x)
      | unsupported (.noEntry "extern/(internal/reflectlite.Value).Set.zeroValue")
    if fl / ReflectliteValue.flagAddr % 2 == 0 then unsupported (.noEntry "extern/(internal/reflectlite.Value).Set.unaddressable")
    let val ← loadVar src b
    if ← Rtype.directlyAssignable dst src then storeVar dst a val
    else if ← Rtype.implements dst src then
      if (← Rtype.kind src) == 20 then
        match val with
        | .nilIface => unsupported (.noEntry "extern/reflectlite: a nil value of one interface type handed on as a value of another")
        | _ => storeVar dst a val
      else storeVar dst a (.iface src val)
    else panicString ("reflectlite.Set: value of type " ++ (← Rtype.spelt src) ++ " is not assignable to type " ++ (← Rtype.spelt dst))
    pure (.tuple #[])) := rfl
theorem rf_parts25a (a : Addr) (w : World) : (ReflectliteValue.parts (.agg #[.pointer (some ⟨2, 60, none⟩), .pointer (some a), .int .u64 409])).run Tryd.prog w = .ok (some (60, a, 409)) w := by kernel_rfl
theorem rf_parts25 (a : Addr) (w : World) : (ReflectliteValue.parts (.agg #[.pointer (some ⟨2, 60, none⟩), .pointer (some a), .int .u64 153])).run Tryd.prog w = .ok (some (60, a, 153)) w := by kernel_rfl
theorem rf_direct25 (w : World) : (Rtype.directlyAssignable 60 60).run Tryd.prog w = .ok true w := by kernel_rfl
theorem rf_size25 (w : World) : (sizeOf 60).run Tryd.prog w = .ok 1 w := by kernel_rfl

/-- (Value).Set: the variable at N gets what the Value's own variable b holds. -/
theorem rf_set25 (N b : Nat) (c old : Int) (W : World) (hb : W.cell? ⟨b, 0, none⟩ = some (.int .i64 c)) (ht : W.cell? ⟨N, 0, none⟩ = some (.int .i64 old)) (hf : W.frozen? ⟨N, 0, none⟩ = false) :
    (ReflectliteValue.set #[.agg #[.pointer (some ⟨2, 60, none⟩), .pointer (some ⟨N, 0, none⟩), .int .u64 409], .agg #[.pointer (some ⟨2, 60, none⟩), .pointer (some ⟨b, 0, none⟩), .int .u64 153]]).run Tryd.prog W
      = .ok (.tuple #[]) (W.setCell ⟨N, 0, none⟩ (.int .i64 c)) := by
  have hl : (loadVar 60 ⟨b, 0, none⟩).run Tryd.prog W = .ok (.agg #[.int .i64 c]) W := by
    have hs : (sizeOf 60).run Tryd.prog W = .ok 1 W := rf_size25 W
    have ha : (isAgg 60).run Tryd.prog W = .ok true W := by kernel_rfl
    simp [loadVar, ha, hs, Result.andThen, loadCells, loadCellsFrom, Addr.add, hb]
  have hst : (storeVar 60 ⟨N, 0, none⟩ (.agg #[.int .i64 c])).run Tryd.prog W = .ok () (W.setCell ⟨N, 0, none⟩ (.int .i64 c)) := by
    have hs : (sizeOf 60).run Tryd.prog W = .ok 1 W := rf_size25 W
    simp [storeVar, Value.cells, hs, storeCells, Addr.add, Result.andThen]
    rw [run_store Tryd.prog W _ _ _ (by rfl)]
    simp [ht, hf]
  rw [rls]
  simp only [Sem.run_bind, rf_parts25a, rf_parts25, Result.andThen]
  simp [ReflectliteValue.flagAddr, hl, rf_direct25, hst, Result.andThen]
end Go.Proofs.YtmioaeaobefphaaDoor
/- errors.As at the program's own error. -/
namespace Go.Proofs.YtmioaeaobefphaaDoor
open Go.RowKit Go.Extern.Stop Go.Stop Go.Extern
set_option linter.unusedVariables false
set_option linter.unusedSimpArgs false
set_option maxHeartbeats 8000000 in
theorem as_hit0 (N : Nat) (c old : Int) (w : World) (hg : w.cell? ⟨1, 0, none⟩ = some (.iface 87 (.agg #[.pointer (some ⟨2, 58, none⟩)]))) (ht0 : w.cell? ⟨N, 0, none⟩ = some (.int .i64 old)) (hf0 : w.frozen? ⟨N, 0, none⟩ = false) (htl : N < w.heap.size) (hlt : 1 < w.heap.size) :
    Calls Tryd.prog 29 #[errW c, .iface 62 (.pointer (some ⟨N, 0, none⟩))] w fun ev w' => ev = .returned (.bool true) ∧ w' = ((((w.alloc (.cells #[.pointer (some ⟨N, 0, none⟩)] 62)).alloc (.cells #[.pointer (some ⟨2, 62, none⟩), .pointer (some ⟨w.heap.size, 0, none⟩), .int .u64 150] 75)).alloc (.cells #[.pointer (some ⟨2, 62, none⟩), .pointer (some ⟨w.heap.size, 0, none⟩), .int .u64 150] 75)).alloc (.cells #[.int .i64 c] 60)).setCell ⟨N, 0, none⟩ (.int .i64 c) := by
  have h6 := @run_callFunc_extern Tryd.prog 36 _ (fun args => ReflectliteValue.unpack (args.getD 0 (.tuple #[]))) Tryd.func36 (by kernel_rfl) (by kernel_rfl) (by kernel_rfl) (by kernel_rfl)
  have h7 := @run_callFunc_extern Tryd.prog 37 _ (ReflectliteValue.methodAny (ReflectliteValue.valueError "reflectlite.Value.Type" 0) (fun t _ _ _ => ReflectliteType.toType t)) Tryd.func37 (by kernel_rfl) (by kernel_rfl) (by kernel_rfl) (by kernel_rfl)
  have h8 := @run_callFunc_extern Tryd.prog 38 _ (ReflectliteValue.method (ReflectliteValue.valueError "reflectlite.Value.IsNil" 0) ReflectliteValue.isNil) Tryd.func38 (by kernel_rfl) (by kernel_rfl) (by kernel_rfl) (by kernel_rfl)
  have h27 := @run_callFunc_extern Tryd.prog 60 _ (ReflectliteType.abiMethod fun t => do pure (.int .u8 (← Rtype.kind t))) Tryd.func60 (by kernel_rfl) (by kernel_rfl) (by kernel_rfl) (by kernel_rfl)
  have h37 := @run_callFunc_extern Tryd.prog 71 _ (ReflectliteType.method ReflectliteType.elem) Tryd.func71 (by kernel_rfl) (by kernel_rfl) (by kernel_rfl) (by kernel_rfl)
  have h38 := @run_callFunc_extern Tryd.prog 72 _ (ReflectliteType.relation "Implements" ReflectliteType.implements_) Tryd.func72 (by kernel_rfl) (by kernel_rfl) (by kernel_rfl) (by kernel_rfl)
  have h10 := @run_callFunc_extern Tryd.prog 43 _ ReflectliteType.typeOf Tryd.func43 (by kernel_rfl) (by kernel_rfl) (by kernel_rfl) (by kernel_rfl)
  have h35 := @run_callFunc_extern Tryd.prog 69 _ (ReflectliteType.relation "AssignableTo" ReflectliteType.assignableTo) Tryd.func69 (by kernel_rfl) (by kernel_rfl) (by kernel_rfl) (by kernel_rfl)
  have h11 := @run_callFunc_extern Tryd.prog 44 _ (ReflectliteValue.method (ReflectliteValue.valueError "reflectlite.Value.Elem" 0) ReflectliteValue.elem) Tryd.func44 (by kernel_rfl) (by kernel_rfl) (by kernel_rfl) (by kernel_rfl)
  have h12 := @run_callFunc_extern Tryd.prog 45 _ ReflectliteValue.set Tryd.func45 (by kernel_rfl) (by kernel_rfl) (by kernel_rfl) (by kernel_rfl)
  have tO := rf_typeOf25
  have mA := rf_methodAssignableTo
  have a25 := rf_assignable25
  have v25 := rf_valueOf25
  have f6 := rf_valueOf27
  have f7 := rf_type27
  have mK := rf_methodKind
  have mE := rf_methodElem
  have mI := rf_methodImplements
  have k27 := rf_kind27
  have k25 := rf_kind25
  have e27 := rf_elem27
  have i25 := rf_implements25
  have n8 := rf_isNil27 ⟨w.heap.size, 0, none⟩ ⟨N, 0, none⟩ ((w.alloc (.cells #[.pointer (some ⟨N, 0, none⟩)] 62)).alloc (.cells #[.pointer (some ⟨2, 62, none⟩), .pointer (some ⟨w.heap.size, 0, none⟩), .int .u64 150] 75)) (by simp)
  have hg2 : ((w.alloc (.cells #[.pointer (some ⟨N, 0, none⟩)] 62)).alloc (.cells #[.pointer (some ⟨2, 62, none⟩), .pointer (some ⟨w.heap.size, 0, none⟩), .int .u64 150] 75)).cell? ⟨1, 0, none⟩ = some (.iface 87 (.agg #[.pointer (some ⟨2, 58, none⟩)])) := by
    rw [World.cell?_alloc_lt _ _ ⟨1, 0, none⟩ (by simp; omega), World.cell?_alloc_lt _ _ ⟨1, 0, none⟩ hlt]; exact hg
  have el := rf_elemV27 ⟨w.heap.size, 0, none⟩ ⟨N, 0, none⟩ (((w.alloc (.cells #[.pointer (some ⟨N, 0, none⟩)] 62)).alloc (.cells #[.pointer (some ⟨2, 62, none⟩), .pointer (some ⟨w.heap.size, 0, none⟩), .int .u64 150] 75)).alloc (.cells #[.pointer (some ⟨2, 62, none⟩), .pointer (some ⟨w.heap.size, 0, none⟩), .int .u64 150] 75)) (by rw [World.cell?_alloc_lt _ _ ⟨w.heap.size, 0, none⟩ (by simp; omega)]; simp)
  have st := rf_set25 N (w.heap.size + 1 + 1 + 1) c old ((((w.alloc (.cells #[.pointer (some ⟨N, 0, none⟩)] 62)).alloc (.cells #[.pointer (some ⟨2, 62, none⟩), .pointer (some ⟨w.heap.size, 0, none⟩), .int .u64 150] 75)).alloc (.cells #[.pointer (some ⟨2, 62, none⟩), .pointer (some ⟨w.heap.size, 0, none⟩), .int .u64 150] 75)).alloc (.cells #[.int .i64 c] 60))
    (by rw [World.cell?_alloc_at _ _ _ _ (by simp)]; rfl)
    (by rw [World.cell?_alloc_lt _ _ ⟨N, 0, none⟩ (by simp; omega), World.cell?_alloc_lt _ _ ⟨N, 0, none⟩ (by simp; omega), World.cell?_alloc_lt _ _ ⟨N, 0, none⟩ (by simp; omega), World.cell?_alloc_lt _ _ ⟨N, 0, none⟩ htl]; exact ht0)
    (by rw [World.frozen?_alloc_old _ _ ⟨N, 0, none⟩ (by simp; omega), World.frozen?_alloc_old _ _ ⟨N, 0, none⟩ (by simp; omega), World.frozen?_alloc_old _ _ ⟨N, 0, none⟩ (by simp; omega), World.frozen?_alloc_old _ _ ⟨N, 0, none⟩ (Nat.ne_of_lt htl)]; exact hf0)
  go_enter Tryd.func29, Tryd.ntmps29
  go_wp2
  refine wp_loop_rounds 1 ?_
  rw [rounds_succ]
  go_wp2
  go_ret
  exact ⟨rfl, rfl⟩

/-- errors.As at the program's own error: the target holds it; nothing else turns. -/
theorem as_hit {w : World} (N : Nat) (c old : Int) (hg : Gl w) (hC : Pl.Cb w N 60 [.int .i64 old]) : Calls Tryd.prog 29 #[errW c, .iface 62 (.pointer (some ⟨N, 0, none⟩))] w fun ev w' => ev = .returned (.bool true) ∧ Pl.Xs [N] w w' ∧ Pl.Cb w' N 60 [.int .i64 c] := by
  refine (as_hit0 N c old w hg.err (hC.at rfl) (hC.frozen 0) hC.lt hg.lt).mono fun ev w' ⟨h1, h2⟩ => ⟨h1, ?_, ?_⟩
  · rw [h2]
    exact Pl.Xs.trans (Pl.Xs.ex (Pl.Ex.trans (Pl.Ex.trans (Pl.Ex.trans (Pl.Ex.alloc _ _) (Pl.Ex.alloc _ _)) (Pl.Ex.alloc _ _)) (Pl.Ex.alloc _ _))) (Pl.Xs.set _ _ _ _)
  · rw [h2]
    exact Pl.Cb.set (Pl.Cb.ex hC (Pl.Ex.trans (Pl.Ex.trans (Pl.Ex.trans (Pl.Ex.alloc _ _) (Pl.Ex.alloc _ _)) (Pl.Ex.alloc _ _)) (Pl.Ex.alloc _ _))) 0 _
theorem as_nilE {w : World} (t : Value) : Calls Tryd.prog 29 #[.nilIface, t] w fun e w' => e = .returned (.bool false) ∧ Pl.Ex w w' := (as_nil t w).mono fun e w' h => ⟨h.1, by rw [h.2]; exact Pl.Ex.refl _⟩
end Go.Proofs.YtmioaeaobefphaaDoor
