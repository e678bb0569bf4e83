/- Small laws for the printer of walks. -/
import Derived.Test.YtmioaeaobefphaaDoorPJ
import Derived.Test.YtmioaeaobefphaaDoorPZ
namespace Go.Proofs.YtmioaeaobefphaaDoor.Pl
open Go Go.RowKit
set_option linter.unusedVariables false
set_option linter.unusedSimpArgs false

/-! Small laws for the walk's printer (sx.py). -/
theorem a64 {a b : Nat} {x y : Int} (hx : x = (a : Int)) (hy : y = (b : Int)) (h : a + b ≤ 9223372036854775807) : IntKind.i64.wrap (x + y) = ((a + b : Nat) : Int) := by
  subst hx hy; rw [w64 (by omega) (by omega)]; omega
theorem s64 {a b : Nat} {x y : Int} (hx : x = (a : Int)) (hy : y = (b : Int)) (hb : b ≤ a) (h : a ≤ 9223372036854775807) : IntKind.i64.wrap (x - y) = ((a - b : Nat) : Int) := by
  subst hx hy; rw [w64 (by omega) (by omega)]; omega
theorem e_t {a b : Int} (h : a = b) : (a == b) = true := beq_iff_eq.2 h
theorem e_f {a b : Int} (h : a ≠ b) : (a == b) = false := beq_false_of_ne h
theorem n_t {a b : Int} (h : a ≠ b) : (a != b) = true := bne_iff_ne.2 h
theorem n_f {a b : Int} (h : a = b) : (a != b) = false := by subst h; simp
theorem c_id {k : IntKind} {a : Nat} {x : Int} (hx : x = (a : Int)) (hw : k.wrap (a : Int) = (a : Int)) : k.wrap x = ((a : Nat) : Int) := by subst hx; exact hw
/-- The end: results in variables of their own and in slots. -/
theorem cellOf {P : Program} {w : World} {N : Nat} {T ty : TypeId} {vs : List Value} {d : TypeDesc} (hC : Cb w N T vs) (hu : P.underlying ty = some d) (hd : d.isRow = true) (hi : (P.info? ty).map (·.size) = some vs.length) : (loadVar ty ⟨N, 0, none⟩).run P w = .ok (.agg vs.toArray) w := by
  have hl := hC.load (o := 0) (part := vs) (by simp) hu hd hi
  simpa only [Instr.loadAt, Instr.sureAddr, Sem.run_bind, Sem.run_pure, Result.andThen_ok] using hl
theorem cellOf1 {P : Program} {w : World} {N : Nat} {T ty : TypeId} {v : Value} {d : TypeDesc} (hC : Cb w N T [v]) (hu : P.underlying ty = some d) (hd : d.isRow = false) : (loadVar ty ⟨N, 0, none⟩).run P w = .ok v w := by
  have hl := run_ld (P := P) hu hd (hC.at (j := 0) rfl)
  simpa only [Instr.loadAt, Instr.sureAddr, Sem.run_bind, Sem.run_pure, Result.andThen_ok] using hl
section
variable {P : Program} {T : TypeId} {x y : Operand} {a b c : Nat} {za zb : Int}
theorem r_and32 (ha : a < 4294967296) (hb : b < 4294967296) (hza : za = (a : Int)) (hzb : zb = (b : Int)) (h : a &&& b = c) (X : World) : Bn P .and T x y (.int .u32 za) (.int .u32 zb) X = .ok (.int .u32 ((c : Nat) : Int)) X := by subst hza hzb; exact r_and rfl ha hb h X
theorem r_or32 (ha : a < 4294967296) (hb : b < 4294967296) (hza : za = (a : Int)) (hzb : zb = (b : Int)) (h : a ||| b = c) (X : World) : Bn P .or T x y (.int .u32 za) (.int .u32 zb) X = .ok (.int .u32 ((c : Nat) : Int)) X := by subst hza hzb; exact r_or rfl ha hb h X
theorem r_xor32 (ha : a < 4294967296) (hb : b < 4294967296) (hza : za = (a : Int)) (hzb : zb = (b : Int)) (h : a ^^^ b = c) (X : World) : Bn P .xor T x y (.int .u32 za) (.int .u32 zb) X = .ok (.int .u32 ((c : Nat) : Int)) X := by subst hza hzb; exact r_xor rfl ha hb h X
theorem r_xor8 (ha : a < 256) (hb : b < 256) (hza : za = (a : Int)) (hzb : zb = (b : Int)) (h : a ^^^ b = c) (X : World) : Bn P .xor T x y (.int .u8 za) (.int .u8 zb) X = .ok (.int .u8 ((c : Nat) : Int)) X := by subst hza hzb; exact r_xor rfl ha hb h X
end
section
variable {P : Program} {T : TypeId} {x y : Operand}
theorem r_shl32 {n m c : Nat} {zb : Int} (hm : zb = (m : Int)) (hb : m ≤ 32) (h : n * 2 ^ m = c) (hc : c < 4294967296) {k' : IntKind} (X : World) : Bn P .shl T x y (.int .u32 ((n : Nat) : Int)) (.int k' zb) X = .ok (.int .u32 ((c : Nat) : Int)) X := by
  subst hm h; exact r_shl rfl hb (w32 (by omega) (by omega)) X
end
theorem or_add {a y i : Nat} (h : a < 2 ^ i) : a ||| (y * 2 ^ i) = a + y * 2 ^ i := by
  have h1 := Nat.shiftLeft_add_eq_or_of_lt (a := y) h
  rw [Nat.shiftLeft_eq] at h1
  rw [Nat.or_comm, ← h1, Nat.add_comm]
theorem w8o {a n : Nat} (h : a = n) : IntKind.u8.wrap ((a : Nat) : Int) = (((UInt8.ofNat n).toNat : Nat) : Int) := by
  subst h; rw [w8m, UInt8.toNat_ofNat']; omega
theorem Gr.ofCb {ok : Value → Prop} {w : World} {base N n size : Nat} {e : TypeId} {cs : List Value} (h : Cb w N e cs) (hb : base ≤ N) (hl : cs.length = n * size) (hm : n ≤ maxLen) (hok : ∀ c ∈ cs, ok c) : Gr ok w base e size (.slice (some ⟨N, 0, none⟩) n n) n cs :=
  ⟨hl, .inr ⟨N, n, cs.toArray, rfl, hb, h, Nat.le_refl _, hm, by simpa using hl, by rw [← hl]; simp, by simpa using hok⟩⟩
section
variable {P : Program} {n : Nat} {cs : List Code} {l : List (Nat × Value)} {w : World} {fn : Func} {R : Ending → World → Prop} {t t2 t3 : Tmp} {N N2 N3 : Nat} {ty ty2 ty3 : TypeId} {v v2 v3 : Value}
theorem post_c1 (hr : fn.results = #[.cell t ty, .tmp t2]) (hv : look l t = some (.pointer (some ⟨N, 0, none⟩))) (hv2 : look l t2 = some v2) (hl : (loadVar ty ⟨N, 0, none⟩).run P w = .ok v w) (h : R (.returned (.tuple #[v, v2])) w) :
    V P (bodyPost P fn R) n [] (.ret :: cs) l w := V_ret fun a ha => by
  refine ⟨ha.defers, .tuple #[v, v2], ?_, h⟩
  unfold results
  rw [hr]
  have e : a.tmps.getD t undef = .pointer (some ⟨N, 0, none⟩) := by rw [Array.getD_eq_getD_getElem?, ha.look t _ hv]; rfl
  have e2 : a.tmps.getD t2 undef = v2 := by rw [Array.getD_eq_getD_getElem?, ha.look t2 v2 hv2]; rfl
  simp only [List.mapM_toArray, List.mapM_cons, List.mapM_nil, e, e2, asAddr]
  simp [hl, Sem.run_bind, Result.andThen]
theorem post_c2 (hr : fn.results = #[.cell t ty, .tmp t2, .tmp t3]) (hv : look l t = some (.pointer (some ⟨N, 0, none⟩))) (hv2 : look l t2 = some v2) (hv3 : look l t3 = some v3) (hl : (loadVar ty ⟨N, 0, none⟩).run P w = .ok v w) (h : R (.returned (.tuple #[v, v2, v3])) w) :
    V P (bodyPost P fn R) n [] (.ret :: cs) l w := V_ret fun a ha => by
  refine ⟨ha.defers, .tuple #[v, v2, v3], ?_, h⟩
  unfold results
  rw [hr]
  have e : a.tmps.getD t undef = .pointer (some ⟨N, 0, none⟩) := by rw [Array.getD_eq_getD_getElem?, ha.look t _ hv]; rfl
  have e2 : a.tmps.getD t2 undef = v2 := by rw [Array.getD_eq_getD_getElem?, ha.look t2 v2 hv2]; rfl
  have e3 : a.tmps.getD t3 undef = v3 := by rw [Array.getD_eq_getD_getElem?, ha.look t3 v3 hv3]; rfl
  simp only [List.mapM_toArray, List.mapM_cons, List.mapM_nil, e, e2, e3, asAddr]
  simp [hl, Sem.run_bind, Result.andThen]
theorem results_c3 {a : Act} (ha : Ag n [] a l) (hr : fn.results = #[.cell t ty, .cell t2 ty2, .cell t3 ty3]) (hv : look l t = some (.pointer (some ⟨N, 0, none⟩))) (hv2 : look l t2 = some (.pointer (some ⟨N2, 0, none⟩))) (hv3 : look l t3 = some (.pointer (some ⟨N3, 0, none⟩))) (hl : (loadVar ty ⟨N, 0, none⟩).run P w = .ok v w) (hl2 : (loadVar ty2 ⟨N2, 0, none⟩).run P w = .ok v2 w) (hl3 : (loadVar ty3 ⟨N3, 0, none⟩).run P w = .ok v3 w) :
    (results fn a.tmps).run P w = .ok (.tuple #[v, v2, v3]) w := by
  unfold results
  rw [hr]
  have e : a.tmps.getD t undef = .pointer (some ⟨N, 0, none⟩) := by rw [Array.getD_eq_getD_getElem?, ha.look t _ hv]; rfl
  have e2 : a.tmps.getD t2 undef = .pointer (some ⟨N2, 0, none⟩) := by rw [Array.getD_eq_getD_getElem?, ha.look t2 _ hv2]; rfl
  have e3 : a.tmps.getD t3 undef = .pointer (some ⟨N3, 0, none⟩) := by rw [Array.getD_eq_getD_getElem?, ha.look t3 _ hv3]; rfl
  simp only [List.mapM_toArray, List.mapM_cons, List.mapM_nil, e, e2, e3, asAddr]
  simp [hl, hl2, hl3, Sem.run_bind, Result.andThen]
end
theorem add0 (g j : Nat) : (⟨g, 0, none⟩ : Addr).add (j * 1) = ⟨g, j, none⟩ := by rw [Addr.add_mid, Nat.mul_one, Nat.zero_add]
end Go.Proofs.YtmioaeaobefphaaDoor.Pl
