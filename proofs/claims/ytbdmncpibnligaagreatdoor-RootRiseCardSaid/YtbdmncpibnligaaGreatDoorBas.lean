/- Numbers and their lengths, for the statements. -/
import Derived.Test.YtbdmncpibnligaaGreatDoorBag
import Derived.Test.YtbdmncpibnligaaGreatDoorBaj
import Derived.Test.YtbdmncpibnligaaGreatDoorBap
import Derived.Laws.Bits64
import Derived.Deep.RegionHeld3

namespace Go.Proofs.YtbdmncpibnligaaGreatDoor

theorem blen_mono {n m : Nat} (h : n ≤ m) : blen n ≤ blen m := blen_le_of_lt (Nat.lt_of_le_of_lt h (lt_pow_blen m))
theorem blen_len {n k : Nat} (h : (limbs n).length ≤ k) : blen n ≤ 32 * k := by
  apply blen_le_of_lt
  rw [← pow32]
  exact lt_of_len_le h
end Go.Proofs.YtbdmncpibnligaaGreatDoor
/- Shifts and bits of numbers, for the statements. -/
namespace Go.Proofs.YtbdmncpibnligaaGreatDoor

theorem len_shl_c (n a k c : Nat) (h : (limbs n).length ≤ a) (hk : k ≤ 32 * c) : (limbs (n * 2 ^ k)).length ≤ a + c := by
  apply len_le_of_lt
  have h1 := lt_of_len_le h
  have h2 : 2 ^ k ≤ 4294967296 ^ c := by rw [pow32]; exact Nat.pow_le_pow_right (by decide) hk
  rw [Nat.pow_add]
  exact Nat.lt_of_lt_of_le (Nat.mul_lt_mul_of_pos_right h1 (Nat.two_pow_pos k)) (Nat.mul_le_mul_left _ h2)
theorem blen_le_len (n : Nat) : blen n ≤ 32 * (limbs n).length := blen_len (Nat.le_refl _)
end Go.Proofs.YtbdmncpibnligaaGreatDoor
/- Noughts appended to a row of words. -/
namespace Go.Proofs.YtbdmncpibnligaaGreatDoor
open Go.RowKit
set_option linter.unusedVariables false
set_option maxHeartbeats 400000

theorem wal_zeros_app (o : List Nat) (m : Nat) : wal (o ++ List.replicate m 0) = wal o := by rw [wal_append, wal_zeros, Nat.mul_zero, Nat.add_zero]
theorem zeroCells_one (m : Nat) : Builtin.zeroCells #[Value.int .u64 0] m = (L64 (List.replicate m 0)).toArray := by
  apply Array.ext'
  unfold Builtin.zeroCells
  rw [L64_zeros]
  simp
  apply List.ext_getElem
  · simp
  · intro i h1 h2
    simp at h1 ⊢
    rw [Nat.mod_one]; rfl

theorem run_append_z (w : World) (base g n c m : Nat) (o : List Nat) (hown : Ow w base (.slice (some ⟨g, 0, none⟩) n c) o) (h : n + m ≤ 1000000) (hb : base ≤ w.heap.size) :
    ∃ g' c' w', (Builtin.append_ #[92, 3] 92 #[.slice (some ⟨g, 0, none⟩) n c, .int .i64 (m : Nat)]).run Tryz.prog w = .ok (.slice (some ⟨g', 0, none⟩) (n + m) c') w' ∧
      Ow w' base (.slice (some ⟨g', 0, none⟩) (n + m) c') (o ++ List.replicate m 0) ∧ (g' = g ∨ g' = w.heap.size) ∧ w.grownBy w' (some g) := by
  have hcaps := hown.caps
  have hgb := hown.block
  obtain ⟨i0, hi, hz0, hz1, hz2⟩ := info_parts info64
  have hk : Tryz.prog.underlying 3 = some (.int .i64) := by kernel_rfl
  have hh0 : w.ownsRow base 49 1 (.slice (some ⟨g, 0, none⟩) n c) o.length (L64 o) := hown
  have hmw : IntKind.i64.wrap (m : Int) = (m : Int) := IntWalk.i64_in _ (by omega)
  have hneg : ¬ ((m : Int) < 0) := by omega
  have hmb : ¬ (281474976710656 < (m : Int) * 8) := by omega
  have hzc : (Value.int .u64 0).cells = #[Value.int .u64 0] := rfl
  have ha : ∀ (k : Int) W, Sem.run Tryz.prog (asInt (Value.int IntKind.i64 k)) W = Result.ok k W := fun _ _ => rfl
  have hw0 : IntKind.i64.wrap 0 = 0 := by decide
  rcases hh0.2 with ⟨h1, _⟩ | ⟨g', cap, cur, h1, hg, hh, h2, h3, h4, h5⟩
  · cases h1
  · injection h1 with e1 e2 e3
    injection e1 with e1
    injection e1 with e1
    subst e1 e3
    rw [← e2] at h2 h5
    by_cases hroom : n + m ≤ c
    · have hst := run_storeCells_at Tryz.prog g n 49 (L64 (List.replicate m 0)) 0 cur w hh (by rw [L64_length, List.length_replicate]; omega) (by intro u hu; obtain ⟨z, _, rfl⟩ := List.mem_map.1 hu; rfl)
      simp only [Nat.add_zero] at hst
      have hz1' : ∀ mm, ¬ mm = 0 → (Builtin.zeroCells #[Value.int .u64 0] mm).toList = L64 (List.replicate mm 0) := fun mm _ => by rw [zeroCells_one]
      refine ⟨g, c, w.setRow g (cur.toList.take n ++ L64 (List.replicate m 0) ++ cur.toList.drop (n + (L64 (List.replicate m 0)).length)).toArray, ?_, ?_, .inl rfl, ⟨rfl, rfl, rfl, by simp [World.setRow], fun k _ hk => setRow_other w g k _ (fun e => hk (by rw [e]))⟩⟩
      · rcases Nat.eq_zero_or_pos m with h0 | h0
        · subst h0
          have e : w.setRow g (cur.toList.take n ++ L64 (List.replicate 0 0) ++ cur.toList.drop (n + (L64 (List.replicate 0 0)).length)).toArray = w := by
            have : (cur.toList.take n ++ L64 (List.replicate 0 0) ++ cur.toList.drop (n + (L64 (List.replicate 0 0)).length)).toArray = cur := by simp [L64]
            rw [this, setRow_self w g cur _ _ hh]
          rw [e]
          have hroom' : n ≤ c := by omega
          simp [Builtin.append_, run_underlying Tryz.underlying92, run_underlying hk, sizeOf, typeInfo, hi, hz2, hroom', storeCells, ha, hw0]
        · have h0' : ¬ m = 0 := by omega
          simp [Builtin.append_, run_underlying Tryz.underlying92, run_underlying hk, sizeOf, typeInfo, zeroValue, hi, hz0, hz1, hz2, hroom, hmw, hneg, hmb, h0', hzc, Addr.add_lit, hz1' m h0', hst, ha]
      · have hl : (L64 (List.replicate m 0)).length = m := by rw [L64_length, List.length_replicate]
        refine ⟨by rw [L64_length, Nat.mul_one], .inr ⟨g, c, _, by rw [List.length_append, List.length_replicate, ← e2], hg, setRow_heap w g _ _ _ _ hh, by rw [List.length_append, List.length_replicate, ← e2]; exact hroom, h3, ?_, ?_⟩⟩
        · rw [hl]
          simp only [List.size_toArray, List.length_append, List.length_take, List.length_drop, Array.length_toList (xs := cur), hl]
          omega
        · rw [Nat.mul_one] at h5 ⊢
          rw [h5, List.length_append, List.length_replicate, hl, L64_append]
          rw [List.take_append_of_le_length (by rw [List.length_append, L64_length, hl]; exact Nat.le_refl _), List.take_of_length_le (by rw [List.length_append, L64_length, hl]; exact Nat.le_refl _)]
    · have hm0 : ¬ m = 0 := by omega
      have h63' : ¬ (9223372036854775807 < (n : Int) + (m : Int)) := by omega
      have h48' : ¬ (281474976710656 < Builtin.nextslicecap (n + m) c * 8) := by
        have := growslice_fits (need := n + m) (old := c) (bytes := 8) (by omega) (by omega)
        omega
      have hxl : (L64 o).length = n * 1 := by rw [L64_length, e2, Nat.mul_one]
      have holds : ∀ j u, (L64 o)[j]? = some u → w.cell? ((⟨g, 0, none⟩ : Addr).add j) = some u := hh0.cells (g := g) rfl
      have hfo := run_firstCells_some (P := Tryz.prog) w.drew 1 n ⟨g, 0, none⟩ n c (L64 o) hxl (by simpa using holds)
      have hge := grownCap_ge w (n + m) c 49
      have hcm : grownCap w (n + m) c 49 ≤ maxLen := grownCap_le_maxLen w (n + m) c 49 (by unfold maxLen; omega)
      have hz2' := zeroCells_one m
      refine ⟨w.heap.size, grownCap w (n + m) c 49, w.drew.alloc (.cells ((L64 o).toArray ++ (L64 (List.replicate m 0)).toArray ++ Builtin.zeroCells #[Value.int .u64 0] (grownCap w (n + m) c 49 - (n + m))) 49), ?_, ?_, .inr rfl, ⟨rfl, rfl, rfl, by simp, fun k hk _ => heap_alloc_old w.drew _ hk⟩⟩
      · simp [Builtin.append_, run_underlying Tryz.underlying92, run_underlying hk, sizeOf, typeInfo, zeroValue, hi, hz0, hz1, hz2, hroom, hmw, hneg, hmb, hm0, hzc, h63', h48', Question.forced, hfo, newRow, grownCap, hz2', ha]
        have e3 : ∀ Z : Array Value, (L64 o).toArray ++ ((L64 (List.replicate m 0)).toArray ++ Z) = (L64 o ++ L64 (List.replicate m 0)).toArray ++ Z := fun Z => by apply Array.ext'; simp
        rw [e3]
      · refine ⟨by rw [L64_length, Nat.mul_one], .inr ⟨w.heap.size, _, _, by rw [List.length_append, List.length_replicate, ← e2], hb, heap_alloc_new w.drew _, by rw [List.length_append, List.length_replicate, ← e2]; exact hge, hcm, ?_, ?_⟩⟩
        · simp only [Array.size_append, List.size_toArray, size_zeroCells, L64_length, List.length_replicate]
          rw [← e2]
          simp
          omega
        · simp only [Array.toList_append, Nat.mul_one]
          rw [← L64_append, ← L64_length (o ++ List.replicate m 0)]
          exact List.take_left

theorem wpList_appendZ {w : World} {ops : Array Oper} {rest : List Oper} {o : Oper} {a : Act} {Q : Exit → Act → World → Prop} (hgd : o.guard = none) (s x : Operand) (hty : o.type = 92)
    (ho : o.op = .call { callee := .builtin .append, args := #[s, x], argTypes := #[92, 3] }) (g n c m base : Nat) (os : List Nat) (hs : a.eval s = .slice (some ⟨g, 0, none⟩) n c) (hx : a.eval x = .int .i64 (m : Nat))
    (hown : Ow w base (.slice (some ⟨g, 0, none⟩) n c) os) (hnm : n + m ≤ 1000000) (hb : base ≤ w.heap.size)
    (h : ∀ g' c' w', Ow w' base (.slice (some ⟨g', 0, none⟩) (n + m) c') (os ++ List.replicate m 0) → (g' = g ∨ g' = w.heap.size) → w.grownBy w' (some g) → wpList Tryz.prog ops Q rest (a.put o.dst (.slice (some ⟨g', 0, none⟩) (n + m) c')) w') : wpList Tryz.prog ops Q (o :: rest) a w := by
  obtain ⟨g', c', w', hr, h1, h2, h3⟩ := run_append_z w base g n c m os hown hnm hb
  refine wpList_plain hgd fun K hK => ?_
  unfold Oper.wp execOp
  simp only [ho, resolve, invoke, builtin, Sem.run_bind, Sem.run_pure, Result.andThen_ok, List.map_toArray, List.map_cons, List.map_nil, hs, hx, hty, hr]
  exact hK _ _ (h g' c' w' h1 h2 h3)
end Go.Proofs.YtbdmncpibnligaaGreatDoor
/- A product by three products of halves. -/
namespace Go.Proofs.YtbdmncpibnligaaGreatDoor
open Go.RowKit
set_option linter.unusedVariables false
set_option maxHeartbeats 400000

/-- The way of halves, as the program has it. -/
abbrev Wh : Value := .agg #[.int .i64 40, .func (.func 106) #[] #[], .func (.func 86) #[] #[]]
/-- It is right for rows with less than N words together. -/
def TOk (N : Nat) : Prop := ∀ (w : World) (q1 q2 : Nat) (va vb : Value) (as_ bs : List Nat) (na nb : Nat), V q1 w va as_ → V q2 w vb bs → as_.length = na → bs.length = nb → na + nb < N →
  Calls Tryz.prog 90 #[Wh, va, vb] w fun e w' => Prod w w' e na nb as_ bs ∧ Ext w w'

/-- The words of a row of products. -/
theorem Prod.open {w w' : World} {e : Ending} {na nb : Nat} {as_ bs : List Nat} (h : Prod w w' e na nb as_ bs) (n : Nat) (hn : na + nb = n) :
  ∃ g c o, e = .returned (.slice (some ⟨g, 0, none⟩) n c) ∧ Ow w' w.heap.size (.slice (some ⟨g, 0, none⟩) n c) o ∧ wal o = wal as_ * wal bs ∧ (∀ x ∈ o, x < 18446744073709551616) ∧ o.length = n := by
  obtain ⟨g, c, o, he, ho, hv, hl⟩ := h
  subst hn
  exact ⟨g, c, o, he, ho, hv, hl, ho.caps.1.symm⟩
theorem AdI.done {n off A zl : Nat} {o : List Nat} {cy : Nat} (h : AdI n off A zl o cy) (hn : off + zl = n) (hA : A < BB ^ n) : wal o = A := by
  have hv := h.val
  rw [hn] at hv
  rcases Nat.eq_zero_or_pos cy with h0 | h0
  · rw [h0, Nat.mul_zero, Nat.add_zero] at hv; exact hv
  · have h1 : cy = 1 := by have := h.cy1; omega
    rw [h1, Nat.mul_one] at hv
    omega
theorem SbI.done {n off A T zl : Nat} {o : List Nat} {cy : Nat} (h : SbI n off A T zl o cy) (hn : off + zl = n) (hT : T ≤ A) : wal o = A - T := by
  have hv := h.val
  rw [hn] at hv
  have hlt := wal_lt o h.lt
  rw [h.len] at hlt
  rcases Nat.eq_zero_or_pos cy with h0 | h0
  · rw [h0, Nat.mul_zero, Nat.add_zero] at hv; omega
  · have h1 : cy = 1 := by have := h.cy1; omega
    rw [h1, Nat.mul_one] at hv
    omega

theorem halves_math (A0 A1 B0 B1 P : Nat) : (A0 + P * A1) * (B0 + P * B1) = A0 * B0 + P * P * (A1 * B1) + P * (A0 * B1 + A1 * B0) := by grind
theorem mid_math (A0 A1 B0 B1 : Nat) : (A0 + A1) * (B0 + B1) - A0 * B0 - A1 * B1 = A0 * B1 + A1 * B0 := by
  have : (A0 + A1) * (B0 + B1) = A0 * B0 + A1 * B1 + (A0 * B1 + A1 * B0) := by grind
  omega
theorem mid_le (A0 A1 B0 B1 : Nat) : A0 * B0 ≤ (A0 + A1) * (B0 + B1) ∧ A1 * B1 ≤ (A0 + A1) * (B0 + B1) - A0 * B0 := by
  have : (A0 + A1) * (B0 + B1) = A0 * B0 + A1 * B1 + (A0 * B1 + A1 * B0) := by grind
  omega
/-- Words that are not there: the number is below. -/
theorem wal_take_lt (o : List Nat) (k : Nat) (hk : k ≤ o.length) (h : wal o < BB ^ k) : wal (o.take k) = wal o := by
  have e := wal_cut o k hk
  rcases Nat.eq_zero_or_pos (wal (o.drop k)) with h0 | h0
  · rw [h0, Nat.mul_zero, Nat.add_zero] at e; exact e.symm
  · have : BB ^ k * 1 ≤ BB ^ k * wal (o.drop k) := Nat.mul_le_mul_left _ h0
    omega
theorem prod_lt {as_ bs : List Nat} (ha : ∀ x ∈ as_, x < 18446744073709551616) (hb : ∀ x ∈ bs, x < 18446744073709551616) : wal as_ * wal bs < BB ^ (as_.length + bs.length) := by
  rw [Nat.pow_add]
  exact Nat.mul_lt_mul'' (wal_lt as_ ha) (wal_lt bs hb)

theorem halves_val (zl n n2 m1 m2 r k : Nat) (o1 o2 o5 A0 A1 B0 B1 as_ bs : List Nat) (hlen1 : o1.length = n2) (hlen2 : o2.length = m1) (hlen5 : o5.length = m2)
    (hl1 : ∀ x ∈ o1, x < 18446744073709551616) (hl2 : ∀ x ∈ o2, x < 18446744073709551616) (hn2 : n + n = n2) (hz : n2 + m1 = zl) (hr : n + r = zl) (hk : min r m2 = k)
    (hv1 : wal o1 = wal A0 * wal B0) (hv2 : wal o2 = wal A1 * wal B1) (hmid : wal o5 = wal A0 * wal B1 + wal A1 * wal B0) (ea : wal as_ = wal A0 + BB ^ n * wal A1) (eb : wal bs = wal B0 + BB ^ n * wal B1)
    (hla : ∀ x ∈ as_, x < 18446744073709551616) (hlb : ∀ x ∈ bs, x < 18446744073709551616) (hlz : as_.length + bs.length = zl) :
    (∀ x ∈ splice (splice (List.replicate zl 0) 0 o1) n2 o2, x < 18446744073709551616) ∧ wal (splice (splice (List.replicate zl 0) 0 o1) n2 o2) + BB ^ n * wal (o5.take k) = wal as_ * wal bs ∧
    wal (splice (splice (List.replicate zl 0) 0 o1) n2 o2) + BB ^ n * wal (o5.take k) < BB ^ zl := by
  have hsp1 := wal_splice (List.replicate zl 0) o1 0 (by rw [List.length_replicate, hlen1]; omega) (fun j _ _ => lb_zeros zl j)
  have hlp1 := splice_len (List.replicate zl 0) o1 0 (by rw [List.length_replicate, hlen1]; omega)
  have hsp2 := wal_splice (splice (List.replicate zl 0) 0 o1) o2 n2 (by rw [hlp1, List.length_replicate, hlen2]; omega) (fun j hj _ => by rw [lb_splice_out _ _ _ _ (by rw [List.length_replicate, hlen1]; omega) (by rw [hlen1]; omega)]; exact lb_zeros zl j)
  rw [hsp1, wal_zeros, Nat.zero_add, Nat.pow_zero, Nat.one_mul] at hsp2
  have hlO := splice_lt (splice (List.replicate zl 0) 0 o1) o2 n2 (splice_lt (List.replicate zl 0) o1 0 (fun x hx => by simp at hx; omega) hl1) hl2
  have hab := prod_lt hla hlb
  rw [hlz] at hab
  have hm := halves_math (wal A0) (wal A1) (wal B0) (wal B1) (BB ^ n)
  rw [← ea, ← eb, ← hv1, ← hv2, ← hmid, ← Nat.pow_add, hn2] at hm
  have htk : wal (o5.take k) = wal o5 := by
    rcases Nat.le_total m2 r with h | h
    · rw [List.take_of_length_le (by omega)]
    · refine wal_take_lt o5 k (by omega) ?_
      rw [show k = r by omega]
      have h1 : BB ^ n * wal o5 < BB ^ n * BB ^ r := by rw [← Nat.pow_add, hr]; omega
      exact Nat.lt_of_mul_lt_mul_left h1
  rw [htk, hsp2]
  exact ⟨hlO, hm.symm, by omega⟩

set_option maxRecDepth 100000 in
set_option maxHeartbeats 8000000 in
theorem halves_calls (N : Nat) (IH : TOk N) (w : World) (q1 q2 : Nat) (va vb : Value) (as_ bs : List Nat) (ha : V q1 w va as_) (hb : V q2 w vb bs) (na nb : Nat) (hna : as_.length = na) (hnb : bs.length = nb)
    (h1 : nb ≤ na) (h2 : na < 2 * nb) (h3 : 40 ≤ nb) (h4 : na + nb ≤ N) (h5 : na + nb ≤ 20000) :
    Calls Tryz.prog 106 #[va, vb, .func (.func 90) #[Wh] #[]] w fun e w' => Prod w w' e na nb as_ bs ∧ Ext w w' := by
  obtain ⟨ad, ca, hva, hca, hbk, hne, hcell⟩ := ha.opened hna (by omega)
  obtain ⟨ad2, cb, hvb, hcb, hbk2, hne2, hcell2⟩ := hb.opened hnb (by omega)
  subst hva hvb
  clear hcell hcell2
  obtain ⟨n, hn⟩ : ∃ n, (na + 1) / 2 = n := ⟨_, rfl⟩
  have hni : ((na : Int) + 1) / 2 = (n : Int) := by omega
  have hn1 : 20 ≤ n := by omega
  have hn2 : n ≤ na := by omega
  have hn3 : 2 * n ≤ na + 1 := by omega
  have hn4 : na ≤ 2 * n := by omega
  obtain ⟨a1, ha1⟩ : ∃ a1, na - n = a1 := ⟨_, rfl⟩
  have ha1i : (na : Int) - (n : Int) = (a1 : Int) := by omega
  by_cases hc : nb ≤ n
  · have hd : decide ((nb : Int) ≤ (n : Int)) = true := by rw [decide_eq_true_iff]; omega
    have hE0 := Ext.refl w
    have IHH := Lib.hid IH
    have hA0 : V q1 w (.slice (some ad) n n) (as_.take n) := ha.take hn2 (Nat.le_refl _)
    have hA1 : V q1 w (.slice (some (ad.add n)) a1 (ca - n)) (as_.drop n) := ha.drop hn2 ha1 (by omega)
    have lA0 : (as_.take n).length = n := by rw [List.length_take]; omega
    have lA1 : (as_.drop n).length = a1 := by rw [List.length_drop]; omega
    have eA := wal_cut as_ n (by omega)
    have hab := prod_lt ha.lim hb.lim
    rw [hna, hnb] at hab
    have hHL := Lib.hid (And.intro lA0 (And.intro lA1 hnb))
    have hEA := Lib.hid (And.intro eA hab)
    obtain ⟨A0, hA0e⟩ : ∃ A0, as_.take n = A0 := ⟨_, rfl⟩
    obtain ⟨A1, hA1e⟩ : ∃ A1, as_.drop n = A1 := ⟨_, rfl⟩
    rw [hA0e] at hA0 hHL hEA
    rw [hA1e] at hA1 hHL hEA
    clear hA0e hA1e lA0 lA1 eA hab hna hnb IH ha
    obtain ⟨n2, hn2e⟩ : ∃ n2, n + nb = n2 := ⟨_, rfl⟩
    obtain ⟨m1, hm1e⟩ : ∃ m1, a1 + nb = m1 := ⟨_, rfl⟩
    obtain ⟨zl, hzl⟩ : ∃ zl, na + nb = zl := ⟨_, rfl⟩
    have hk1 : n2 + a1 = zl := by omega
    have hk2 : zl - n = m1 := by omega
    have hk3 : n < zl := by omega
    have hk4 : (n : Int) < (zl : Int) := by omega
    have hk5 : n < na := by omega
    have hk6 : (n : Int) < (na : Int) := by omega
    have hki : (n2 : Int) + (a1 : Int) = (zl : Int) := by omega
    go_enter Tryz.func106, Tryz.ntmps106
    go_wp2_with (fail)
    simp only [hni]
    refine (IHH.out _ q1 q2 _ _ A0 bs n nb hA0 hb hHL.out.1 hHL.out.2.2 (by omega)).mono ?_
    rintro e w1 ⟨hp, hB⟩
    obtain ⟨g1, c1, o1, rfl, ho1, hv1, hl1, hlen1⟩ := hp.open n2 hn2e
    have hg1 := ho1.block
    have hA1w := hA1
    have hbw := hb
    clear hp hE0 hA0
    go_wp2_with (first
      | (with_reducible show wpList _ _ _ (⟨some 36, _, _, _, _, _⟩ :: _) _ _; refine Classical.byContradiction fun hcontra => ?_)
      | fail)
    refine hcontra ?_
    refine wpList_appendZ (o := ⟨some 36, _, _, _, _, _⟩) rfl (.tmp 31) (.tmp 35) rfl rfl g1 n2 c1 a1 w.heap.size o1 rfl rfl ho1 (by omega) hB.size ?_
    intro g2 c2 w2 ho2 hg2 hgr
    clear hcontra
    rw [hk1] at ho2 ⊢
    have hg1' : w.heap.size ≤ g1 := hg1.1
    have hg2' : w.heap.size ≤ g2 := by have := hB.size; omega
    have hE2 : Ext w w2 := hB.grown hgr hB.size (fun k e => by have e' : k = g1 := (Option.some.inj e).symm; omega)
    have hs2 := hgr.size
    have hA1' : V q1 w2 (.slice (some (ad.add n)) a1 (ca - n)) A1 := hA1w.below hE2
    have hb' : V q2 w2 (.slice (some ad2) nb cb) bs := hbw.below hE2
    have hg2b := ho2.block.2
    have hzo : wal (o1 ++ List.replicate a1 0) = wal A0 * wal bs := by rw [wal_zeros_app, hv1]
    have hzl' : ∀ x ∈ o1 ++ List.replicate a1 0, x < 18446744073709551616 := by
      intro x hx
      rcases List.mem_append.1 hx with h | h
      · exact hl1 x h
      · simp at h; omega
    generalize o1 ++ List.replicate a1 0 = O at *
    have hT := Lib.hid (IHH.out w2.drew q1 q2 _ _ A1 bs a1 nb hA1' hb' hHL.out.2.1 hHL.out.2.2 (by omega))
    have ho2D : Ow w2.drew w.heap.size (.slice (some ⟨g2, 0, none⟩) zl c2) O := ho2
    clear hA1' hb' hA1w hbw hA1 hb hgr hB ho1 hl1 hlen1 hv1
    have hk7 : n + m1 = zl := by omega
    have hcz : m1 ≤ c2 - n := by have := ho2.caps; omega
    have hzn6 : zl ≤ 1000000 := by omega
    have hnc2 : n < c2 := by have := ho2.caps; omega
    have hnc2i : (n : Int) < (c2 : Int) := by omega
    have hz2c : zl ≤ c2 := by have := ho2.caps; omega
    have hz2ci : (zl : Int) ≤ (c2 : Int) := by omega
    have hnzl : (n : Int) ≤ (zl : Int) := by omega
    have hnc2j : (n : Int) ≤ (c2 : Int) := by omega
    have hn0i : (0 : Int) ≤ (n : Int) := by omega
    have hnai2 : (n : Int) ≤ (na : Int) := by omega
    have hcai : (na : Int) ≤ (ca : Int) := by omega
    have hncaj : (n : Int) ≤ (ca : Int) := by omega
    have hnca : n < ca := by omega
    have hcne : ¬ (ca = n) := by omega
    have hc2ne : ¬ (c2 = n) := by omega
    have hncai : (n : Int) < (ca : Int) := by omega
    clear ho2 hn hn3 hn4 hc hd hn2e h1 h2 h3 h4 h5 hbk hbk2 hne hne2 hca hcb hs2 hg2b
    go_wp2_with (fail)
    go_region_held3 (fun X => True)
      (first
        | exact trivial)
      (first
        | (go_at_call 90; ((with_reducible refine hT.out.mono ?_); rintro e w3 ⟨hp, hB3⟩; obtain ⟨g3, c3, o3, rfl, ho3, hv3, hl3, hlen3⟩ := hp.open m1 hm1e; have ho2E := ho2D.ext hB3; have hg3 := ho3.block.1; have hg2b := ho2D.block.2; have hV3 := ho3.toV hl3 g2 (by omega)))
        | (go_at_call 93; ((with_reducible refine (addTo_calls w3 g2 w.heap.size zl c2 n m1 (c2 - n) O o3 _ ho2E hzl' (Nat.le_of_eq hk7) hcz hzn6 hV3 (Nat.le_of_eq hlen3)).mono ?_); rintro e w4 ⟨⟨o6, cy6, rfl, hA6, ho6⟩, hB4⟩)))
    have hval : wal O + BB ^ n * wal o3 = wal as_ * wal bs := by
      rw [hzo, hv3, hEA.out.1, Nat.add_mul, Nat.mul_assoc]
    have hv6 := hA6.done hk7 (by rw [hval, ← hzl]; exact hEA.out.2)
    rw [hval] at hv6
    have HF : Hid (Prod w w4 (.returned (.slice (some ⟨g2, 0, none⟩) zl c2)) na nb as_ bs) := by
      refine ⟨g2, c2, o6, by rw [hzl], ?_, hv6, hA6.lt⟩
      rw [hzl]; exact ho6
    have hEF : Ext w w4 := (hE2.drew.below hB3).but hB4 hg2'
    clear hv6 hA6 ho6 hB4 hB3 hval hT hV3 ho2E ho3 hp
    go_wp2
    go_ret
    exact ⟨HF.out, hEF⟩
  · obtain ⟨b1, hb1⟩ : ∃ b1, nb - n = b1 := ⟨_, rfl⟩
    have hd : decide ((nb : Int) ≤ (n : Int)) = false := by rw [decide_eq_false_iff_not]; omega
    have hE0 := Ext.refl w
    have IHH := Lib.hid IH
    have hA0 : V q1 w (.slice (some ad) n n) (as_.take n) := ha.take hn2 (Nat.le_refl _)
    have hA1 : V q1 w (.slice (some (ad.add n)) a1 (ca - n)) (as_.drop n) := ha.drop hn2 ha1 (by omega)
    have hB0 : V q2 w (.slice (some ad2) n n) (bs.take n) := hb.take (by omega) (Nat.le_refl _)
    have hB1 : V q2 w (.slice (some (ad2.add n)) b1 (cb - n)) (bs.drop n) := hb.drop (by omega) hb1 (by omega)
    have lA0 : (as_.take n).length = n := by rw [List.length_take]; omega
    have lA1 : (as_.drop n).length = a1 := by rw [List.length_drop]; omega
    have lB0 : (bs.take n).length = n := by rw [List.length_take]; omega
    have lB1 : (bs.drop n).length = b1 := by rw [List.length_drop]; omega
    have eA := wal_cut as_ n (by omega)
    have eB := wal_cut bs n (by omega)
    have hH' : Hid (as_.length + bs.length = na + nb) := by rw [Hid, hna, hnb]
    have HLA := Lib.hid ha.lim
    have HLB := Lib.hid hb.lim
    have HE := Lib.hid (And.intro eA eB)
    have HL := Lib.hid (And.intro lA0 (And.intro lA1 (And.intro lB0 lB1)))
    have hnn : n ≤ nb := by omega
    clear ha hb IH hn hna hnb eA eB lA0 lA1 lB0 lB1
    obtain ⟨A0, hA0e⟩ : ∃ A0, as_.take n = A0 := ⟨_, rfl⟩
    obtain ⟨A1, hA1e⟩ : ∃ A1, as_.drop n = A1 := ⟨_, rfl⟩
    obtain ⟨B0, hB0e⟩ : ∃ B0, bs.take n = B0 := ⟨_, rfl⟩
    obtain ⟨B1, hB1e⟩ : ∃ B1, bs.drop n = B1 := ⟨_, rfl⟩
    rw [hA0e] at hA0 HL HE
    rw [hA1e] at hA1 HL HE
    rw [hB0e] at hB0 HL HE
    rw [hB1e] at hB1 HL HE
    clear hA0e hA1e hB0e hB1e
    obtain ⟨n2, hn2e⟩ : ∃ n2, n + n = n2 := ⟨_, rfl⟩
    obtain ⟨m1, hm1e⟩ : ∃ m1, a1 + b1 = m1 := ⟨_, rfl⟩
    obtain ⟨m2, hm2e⟩ : ∃ m2, (n + 1) + (n + 1) = m2 := ⟨_, rfl⟩
    go_enter Tryz.func106, Tryz.ntmps106
    go_wp2_with (fail)
    simp only [hni]
    go_quiet (fail)
    go_wp2_with (fail)
    have hE1 : Ext w (w.drewN nq) := ext_drewN w nq
    refine (IHH.out _ q1 q2 _ _ A0 B0 n n (hA0.below hE1) (hB0.below hE1) HL.out.1 HL.out.2.2.1 (by omega)).mono ?_
    rintro e w1 ⟨hp, hB⟩
    obtain ⟨g1, c1, o1, rfl, ho1, hv1, hl1, hlen1⟩ := hp.open n2 hn2e
    replace hE1 := hE1.below hB
    clear hp hB
    go_wp2_with (fail)
    refine (IHH.out _ q1 q2 _ _ A1 B1 a1 b1 (hA1.below hE1) (hB1.below hE1) HL.out.2.1 HL.out.2.2.2 (by omega)).mono ?_
    rintro e w2 ⟨hp, hB⟩
    obtain ⟨g2, c2, o2, rfl, ho2, hv2, hl2, hlen2⟩ := hp.open m1 hm1e
    replace hE1 := hE1.below hB
    have hg1 := ho1.block
    replace ho1 := ho1.ext hB
    have hs2 := hB.size
    clear hp hB
    go_wp2_with (fail)
    have hmx : max n a1 + 1 = n + 1 := by omega
    have hmx2 : max n b1 + 1 = n + 1 := by omega
    refine (sum_calls w2 q1 _ _ A0 A1 (hA0.below hE1) (hA1.below hE1) (n + 1) (by rw [HL.out.1, HL.out.2.1]; exact hmx) (by omega)).mono ?_
    rintro e w3 ⟨rfl, ⟨s1, hs1, hsv1, hsl1, hslen1⟩, hB⟩
    replace hE1 := hE1.below hB
    have hg2 := ho2.block
    replace ho1 := ho1.ext hB
    replace ho2 := ho2.ext hB
    have hs3 := hB.size
    have hb3 := hs1.block
    obtain ⟨g3, hg3⟩ : ∃ g3, w2.heap.size = g3 := ⟨_, rfl⟩
    rw [hg3] at hs1 hb3 ⊢
    clear hB
    go_wp2_with (fail)
    refine (sum_calls w3 q2 _ _ B0 B1 (hB0.below hE1) (hB1.below hE1) (n + 1) (by rw [HL.out.2.2.1, HL.out.2.2.2]; exact hmx2) (by omega)).mono ?_
    rintro e w4 ⟨rfl, ⟨s2, hs2', hsv2, hsl2, hslen2⟩, hB⟩
    replace hE1 := hE1.below hB
    replace ho1 := ho1.ext hB
    replace ho2 := ho2.ext hB
    replace hs1 := hs1.ext hB
    have hs4 := hB.size
    have hb4 := hs2'.block
    obtain ⟨g4, hg4⟩ : ∃ g4, w3.heap.size = g4 := ⟨_, rfl⟩
    rw [hg4] at hs2' hb4 ⊢
    clear hB
    go_wp2_with (fail)
    have hsw := hE1.size
    refine (IHH.out w4 (g3 + 1) (g4 + 1) _ _ s1 s2 (n + 1) (n + 1) (hs1.toV hsl1 (g3 + 1) (by omega)) (hs2'.toV hsl2 (g4 + 1) (by omega)) hslen1 hslen2 (by omega)).mono ?_
    rintro e w5 ⟨hp, hB⟩
    obtain ⟨g5, c5, o3, rfl, ho3, hv3, hl3, hlen3⟩ := hp.open m2 hm2e
    replace hE1 := hE1.below hB
    replace ho1 := ho1.ext hB
    replace ho2 := ho2.ext hB
    have hb5 := ho3.block
    have hc5 := ho3.caps.2.1
    obtain ⟨hmid1, hmid2⟩ := mid_le (wal A0) (wal A1) (wal B0) (wal B1)
    rw [hsv1, hsv2] at hv3
    rw [← hv1, ← hv3] at hmid1
    rw [← hv1, ← hv2, ← hv3] at hmid2
    have hmid := mid_math (wal A0) (wal A1) (wal B0) (wal B1)
    rw [← hv1, ← hv2, ← hv3] at hmid
    clear hp hB hs1 hs2' hsv1 hsv2 hsl1 hsl2 hslen1 hslen2
    go_wp2_with (fail)
    refine (takeFrom_calls w5 g5 w4.heap.size m2 c5 0 m2 c5 o3 o1 _ ho3 hl3 (by omega) hc5 (by omega) (ho1.toV hl1 g5 (by omega)) (by rw [hlen1]; omega)).mono ?_
    rintro e w6 ⟨rfl, ⟨o4, cy4, hS4, ho4⟩, hB6⟩
    rw [Nat.pow_zero, Nat.one_mul] at hS4
    have hv4 := hS4.done (Nat.zero_add _) hmid1
    have hl4 := hS4.lt
    rw [← hv4] at hmid2 hmid
    replace hE1 := hE1.but hB6 (by omega)
    replace ho1 := ho1.but hB6 (by omega)
    replace ho2 := ho2.but hB6 (by omega)
    have hs6 := hB6.size
    clear hB6 hS4 hv4 ho3 hl3 hlen3 hv3 hmid1
    go_wp2_with (fail)
    refine (takeFrom_calls w6 g5 w4.heap.size m2 c5 0 m2 c5 o4 o2 _ ho4 hl4 (by omega) hc5 (by omega) (ho2.toV hl2 g5 (by omega)) (by rw [hlen2]; omega)).mono ?_
    rintro e w7 ⟨rfl, ⟨o5, cy5, hS5, ho5⟩, hB7⟩
    rw [Nat.pow_zero, Nat.one_mul] at hS5
    have hv5 := hS5.done (Nat.zero_add _) hmid2
    have hl5 := hS5.lt
    have hlen5 := hS5.len
    rw [← hv5] at hmid
    replace hE1 := hE1.but hB7 (by omega)
    replace ho1 := ho1.but hB7 (by omega)
    replace ho2 := ho2.but hB7 (by omega)
    have hs7 := hB7.size
    clear hB7 hS5 hv5 ho4 hl4 hmid2
    obtain ⟨i0, hi, hz0, hz1, hz2⟩ := info_parts info64
    obtain ⟨zl, hzl⟩ : ∃ zl, na + nb = zl := ⟨_, rfl⟩
    have h5' : na + nb = zl → zl ≤ 20000 := fun h => by rw [← h]; exact h5
    have hzli : (na : Int) + (nb : Int) = (zl : Int) := by omega
    have h2n : (2 : Int) * (n : Int) = (n2 : Int) := by omega
    have hzn : zl - n2 = m1 := by omega
    obtain ⟨g8, hg8⟩ : ∃ g8, w7.heap.size = g8 := ⟨_, rfl⟩
    have HMID := Lib.hid hmid
    have HV12 := Lib.hid (And.intro hv1 hv2)
    have hV1 : V g8 w7 _ o1 := ho1.toV hl1 g8 (by omega)
    have hV2 : V g8 w7 _ o2 := ho2.toV hl2 g8 (by omega)
    have hV5 : V g8 w7 _ o5 := ho5.toV hl5 g8 (by have := ho5.block; omega)
    have hz1a : n2 ≤ zl := by omega
    have hz1b : zl ≤ 20000 := h5' hzl
    have hz1c : n ≤ zl := by omega
    have hn2i : (0 : Int) ≤ (n2 : Int) := by omega
    have hn2k : n2 < zl := by omega
    have hn2l : (n2 : Int) < (zl : Int) := by omega
    have hm1p : 0 < m1 := by omega
    have hn2j : (n2 : Int) ≤ (zl : Int) := by omega
    have hk5 : n2 + m1 = zl := by omega
    have hH : Hid (na + nb = zl ∧ n + n = n2 ∧ a1 + b1 = m1 ∧ (n + 1) + (n + 1) = m2 ∧ na - n = a1 ∧ nb - n = b1 ∧ n ≤ na ∧ n ≤ nb ∧ 20 ≤ n ∧ w.heap.size ≤ g8) := ⟨hzl, hn2e, hm1e, hm2e, ha1, hb1, hn2, hnn, hn1, by rw [← hg8]; exact hE1.size⟩
    clear hmid hv1 hv2 ho1 ho2 ho5 hs2 hs3 hs4 hs6 hs7 hb3 hb4 hb5 hg1 hg2 hg3 hg4 hE0 hA0 hA1 hB0 hB1 hmx hmx2 hca hcb hbk hbk2 hne hne2 hsw IHH h1 h2 h3 h4 h5 hn1 hn2 hn3 hn4 ha1 hb1 hnn hn2e hm1e hm2e hzl ha1i hc hd h5'
    go_wp2_with (first
      | (at_make; refine wpList_make_full _ rfl _ _ 92 rfl w7.heap.size 49 i0 (.int .u64 0) 1 Tryz.underlying92 hi hz0 hz1 _ _ _ _ zl rfl rfl (by omega) (by omega) (by rw [hz2]; omega) (by unfold maxLen; omega) (Nat.le_refl _) ?_; intro w8 hown hgrow; have hz := Ow.zeros hown; rw [hg8] at hz; have hE8 : Ext w7 w8 := (Ext.refl w7).grown hgrow (Nat.le_refl _) (fun _ h => by cases h); have hV18 := hV1.below hE8; have hV28 := hV2.below hE8; have hV58 := hV5.below hE8; have hE9 := hE1.below hE8; clear hown hgrow)
      | (with_reducible show wpList _ _ _ _ _ _; refine wpList_copyW (o := ⟨some 92, _, _, _, _, _⟩) rfl (.tmp 90) (.tmp 91) rfl g8 0 zl zl (some ⟨g1, 0, none⟩) n2 c1 rfl rfl g8 zl zl (List.replicate zl 0) hz o1 hV18 (by omega) (by omega) ?_; intro w9 hz9 hb9; have hV29 := hV28.but hb9; have hV59 := hV58.but hb9)
      | (with_reducible show wpList _ _ _ _ _ _; refine wpList_copyW (o := ⟨some 98, _, _, _, _, _⟩) rfl (.tmp 96) (.tmp 97) rfl g8 n2 m1 m1 (some ⟨g2, 0, none⟩) m1 c2 rfl rfl g8 zl zl _ hz9 o2 hV29 (Nat.le_refl _) (by omega) ?_; intro w10 hz10 hb10; have hV510 := hV59.but hb10)
      | fail)
    obtain ⟨r, hr⟩ : ∃ r, zl - n = r := ⟨_, rfl⟩
    obtain ⟨k, hk⟩ : ∃ k, min r m2 = k := ⟨_, rfl⟩
    have hri : (zl : Int) - (n : Int) = (r : Int) := by omega
    have hnz : n < zl := by omega
    have hrw : IntKind.i64.wrap (r : Int) = (r : Int) := IntWalk.i64_in _ (by omega)
    have hnzi : (n : Int) < (zl : Int) := by omega
    have hO := Lib.hid (halves_val zl n n2 m1 m2 r k o1 o2 o5 A0 A1 B0 B1 as_ bs hlen1 hlen2 hlen5 hl1 hl2 hH.out.2.1 hk5 (by omega) hk HV12.out.1 HV12.out.2 HMID.out HE.out.1 HE.out.2 HLA.out HLB.out (by rw [← hH.out.1]; exact hH'.out))
    generalize splice (splice (List.replicate zl 0) 0 o1) n2 o2 = O at *
    have hz11 : Ow w10.drew g8 (.slice (some ⟨g8, 0, none⟩) zl zl) O := hz10
    have hV6 : V g8 w10.drew (.slice (some ⟨g5, 0, none⟩) k c5) (o5.take k) := (hV510.take (by omega) (by omega)).below (Ext.refl w10).drew
    have hkl : (o5.take k).length ≤ r := by rw [List.length_take]; omega
    have hEE : Ext w w10 := by
      have h := hH.out.2.2.2.2.2.2.2.2.2
      exact (hE9.but hb9 h).but hb10 h
    have hFit := fun W => fit_calls W (some ⟨g5, 0, none⟩) m2 c5 r k hc5 hk (by omega)
    have hAdd := addTo_calls w10.drew g8 g8 zl zl n r r O (o5.take k) _ hz11 hO.out.1 (by omega) (Nat.le_refl _) (by omega) hV6 hkl
    have HFit := Lib.hid hFit
    have HAdd := Lib.hid hAdd
    clear hFit hAdd hz11 hV6 hkl hz10 hV510
    go_region_held3 (fun X => True)
      (first
        | exact trivial)
      (first
        | (go_at_call 119; ((with_reducible refine (HFit.out _).mono ?_); rintro e w' ⟨rfl, rfl⟩))
        | (go_at_call 93; ((with_reducible refine HAdd.out.mono ?_); rintro e w11 ⟨⟨o6, cy6, rfl, hA6, ho6⟩, hB11⟩)))
    have hv6 := hA6.done (by omega) hO.out.2.2
    rw [hO.out.2.1] at hv6
    have HF : Hid (Prod w w11 (.returned (.slice (some ⟨g8, 0, none⟩) zl zl)) na nb as_ bs) := by
      refine ⟨g8, zl, o6, by rw [hH.out.1], ?_, hv6, hA6.lt⟩
      rw [hH.out.1]
      exact ho6.base_mono hH.out.2.2.2.2.2.2.2.2.2
    have hEF : Ext w w11 := hEE.drew.but hB11 hH.out.2.2.2.2.2.2.2.2.2
    clear hv6 hA6 ho6 hB11 hEE hO HFit HAdd
    go_wp2
    go_ret
    exact ⟨HF.out, hEF⟩
end Go.Proofs.YtbdmncpibnligaaGreatDoor
