/- nat.Cmp. -/
import Derived.Test.YtnjkdplhoihkiaaC1
import Derived.Test.YtnjkdplhoihkiaaW3
namespace Go.Proofs.Ytnjkdplhoihkiaa
open Go.RowKit Go.Shelf
set_option linter.unusedVariables false
attribute [local go_sem] Oper.semAt_some

set_option maxRecDepth 100000 in
set_option maxHeartbeats 2000000 in
theorem cmp_same (w : World) (v u : Value) (n m : Nat) (h : Un w v n) (g : Un w u m) (hl : (limbs n).length = (limbs m).length) :
    CallsIn Fence.wide 4 Try.prog 24 #[v, u] w fun e w' => e = .returned (.int .i64 (cmpI n m)) ∧ Below w.heap.size w w' := by
  obtain ⟨A, c, rfl, ⟨hc, hm⟩, hx, hr⟩ := id h
  obtain ⟨A2, c2, rfl, ⟨hc2, hm2⟩, hx2, hr2⟩ := id g
  have hl1 : ((((limbs n).length : Nat) : Int) != (((limbs m).length : Nat) : Int)) = false := by rw [bne_eq_false_iff_eq, hl]
  have HL := Lib.hid hl
  clear hl
  refine callsIn_of_wp_marks Try.func24 rfl trivial ?_ rfl
  simp only [Try.ntmps24, List.size_toArray, List.length_cons, List.length_nil, Nat.reduceAdd, Nat.reduceSub, Array.replicate_succ, Array.replicate_zero, List.push_toArray, List.append_toArray, List.nil_append, List.cons_append]
  gi_wp2_with (refine ⟨trivial, ?_⟩; gi_at_call 41; refine (back_in _ _ _ _).mono ?_; rintro e w' ⟨rfl, rfl⟩)
  obtain ⟨W0, hW0⟩ : ∃ W0, ((w.alloc (.cells #[.slice A2 (limbs m).length c2] 22)).alloc (.cells #[.int .i64 0] 3)).alloc (.cells #[.slice A (limbs n).length c] 22) = W0 := ⟨_, rfl⟩
  have hB0 : Below w.heap.size w W0 := by rw [← hW0]; exact (((Below.refl _ w).alloc (Nat.le_refl _) _).alloc (by simp) _).alloc (by simp; omega) _
  have hsz : W0.heap.size = w.heap.size + 1 + 1 + 1 := by rw [← hW0]; simp
  have bB : Boxed W0 w.heap.size 22 (.slice A2 (limbs m).length c2) := by rw [← hW0]; exact ((Boxed.new w 22 _).alloc _).alloc _
  have bR : Boxed W0 (w.heap.size + 1) 3 (.int .i64 0) := by
    rw [← hW0]
    have := (Boxed.new (w.alloc (.cells #[.slice A2 (limbs m).length c2] 22)) 3 (.int .i64 0)).alloc (.cells #[.slice A (limbs n).length c] 22)
    rwa [World.size_alloc] at this
  have bA : W0.cell? ⟨w.heap.size + 1 + 1, 0, none⟩ = some (.slice A (limbs n).length c) := by
    rw [← hW0]
    have := (Boxed.new ((w.alloc (.cells #[.slice A2 (limbs m).length c2] 22)).alloc (.cells #[.int .i64 0] 3)) 22 (.slice A (limbs n).length c)).cell
    rwa [World.size_alloc, World.size_alloc] at this
  rw [hW0]
  clear hW0
  refine wpIn_rangeFunc_ownG rfl (by omega) (gf := 50) (lb := #[.pointer (some ⟨w.heap.size + 1 + 1, 0, none⟩)]) rfl trivial (enters_of Try.func50 (by kernel_rfl) rfl)
    (back_stops (w.heap.size + 1 + 1) _ (limbs n) W0 (by omega) bA (h.below hB0)) belowK_t (belowK_b (Nat.le_refl _)) (Below.refl _ _) (fun _ => rfl)
    (fun pre W => ((∀ p ∈ pre, lb (limbs n) p.1 = lb (limbs m) p.1) ∧ W.cell? ⟨w.heap.size, 0, none⟩ = some (.slice A2 (limbs m).length c2) ∧ W.cell? ⟨w.heap.size + 1, 0, none⟩ = some (.int .i64 0) ∧ W.frozen? ⟨w.heap.size + 1, 0, none⟩ = false) ∧ Below w.heap.size w W)
    (fun c pre W => (c = .ret ∧ ∃ ini last, pre = ini ++ [last] ∧ (∀ p ∈ ini, lb (limbs n) p.1 = lb (limbs m) p.1) ∧ lb (limbs n) last.1 ≠ lb (limbs m) last.1 ∧ W.cell? ⟨w.heap.size + 1, 0, none⟩ = some (.int .i64 (cmpI (lb (limbs n) last.1) (lb (limbs m) last.1)))) ∧ Below w.heap.size w W)
    (OwnFrom.and (Own.from (fun s A B row hs hg hr => ⟨hs.1, cell_kept hs.2.1 hg hr, cell_kept hs.2.2.1 hg hr, (frozen_kept hs.2.2.1 hg hr).trans hs.2.2.2⟩) _) (ownFrom_below (Nat.le_refl _) (by omega)))
    (fun c => OwnFrom.and (Own.from (fun s A B row hs hg hr => by obtain ⟨hc, ini, last, e1, e2, e3, e4⟩ := hs; exact ⟨hc, ini, last, e1, e2, e3, cell_kept e4 hg hr⟩) _) (ownFrom_below (Nat.le_refl _) (by omega)))
    ⟨⟨by simp, bB.cell, bR.cell, bR.frozen⟩, hB0⟩
    (fun x => { tmps := #[.slice A (limbs n).length c, .slice A2 (limbs m).length c2, undef, .pointer (some ⟨w.heap.size, 0, none⟩), .pointer (some ⟨w.heap.size + 1, 0, none⟩), .int .i64 (x.1 : Int), .int .u32 ((lb (limbs n) x.1 : Nat) : Int), .slice A (limbs n).length c, .int .i64 ((limbs n).length : Nat), .slice A2 (limbs m).length c2, .int .i64 ((limbs m).length : Nat), .bool false, undef, undef, undef, undef, undef, .slice A (limbs n).length c, .func (.func 50) #[] #[.pointer (some ⟨w.heap.size + 1 + 1, 0, none⟩)], .int .i64 (x.1 : Int), .int .u32 ((lb (limbs n) x.1 : Nat) : Int), undef, undef, undef, undef, undef, undef, undef, undef, undef, undef, undef, undef], defers := [] }) ?assign ?body ?done ?stop
  case assign =>
    intro l x W K hK
    gi_wp2
    exact hK
  case body =>
    rintro l pre x W ⟨⟨hp, hcb, hcr, hfr⟩, hB⟩ _
    obtain ⟨ad2, rfl, hb2, hcell2⟩ := hr2 (by have := x.2; have := HL.out; omega)
    have hlt2 : ((x.1 : Nat) : Int) < (limbs m).length := by have := x.2; have := HL.out; omega
    have hc2 := (hB.cell (p := ad2.add x.1) (by rw [addr_add_block]; exact hb2)).trans (hcell2 x.1 (by have := x.2; have := HL.out; omega))
    by_cases he : lb (limbs n) x.1 = lb (limbs m) x.1
    · have ht : ((((lb (limbs n) x.1 : Nat)) : Int) != ((lb (limbs m) x.1 : Nat) : Int)) = false := by rw [bne_eq_false_iff_eq, he]
      have HX := Lib.hid he
      clear he
      gi_wp2
      exact ⟨KeepsFrom.refl _ _, Below.refl _ _, ⟨fun p hp' => (List.mem_append.1 hp').elim (hp p) (fun e => by simp at e; subst e; exact HX.out), hcb, hcr, hfr⟩, hB⟩
    · have ht : ((((lb (limbs n) x.1 : Nat)) : Int) != ((lb (limbs m) x.1 : Nat) : Int)) = true := by rw [bne_iff_ne]; omega
      have HX := Lib.hid he
      clear he
      gi_wp2_with (refine ⟨trivial, ?_⟩; gi_at_call 42; refine (CallsIn.inRound l (callsIn_wide.2 (cmpU32_calls _ _ _))).mono ?_; rintro e w' ⟨rfl, rfl⟩)
      exact ⟨(KeepsOthers.setCell _ _ _).from _, ⟨rfl, pre, x, rfl, hp, HX.out, World.cell?_setCell_same' _ _ _ (by rw [hcr]; rfl)⟩, hB.setCell (p := ⟨w.heap.size + 1, 0, none⟩) (by simp) _⟩
  case done =>
    rintro D ys W hD hS ⟨⟨hne, hcb, hcr, hfr⟩, hB⟩ hK
    have hnm : n = m := limbs_inj (ext_lb HL.out fun j hj => by
      have : j ∈ ys.map (·.1) := by rw [hS, mem_downs (Nat.le_refl _)]; omega
      obtain ⟨p, hp, rfl⟩ := List.mem_map.1 this
      exact hne p hp)
    have HF : Hid (cmpI n m = 0) := by rw [Hid, hnm]; exact cmpI_eq _
    clear hnm hS
    gi_wp2
    have hK' := (KeepsOthers.setCell W ⟨w.heap.size + 1, 0, none⟩ (.int .i64 0)).same D _ hK rfl
    refine ⟨by simp, .inl ⟨_, _, rfl, run_takeDeferred hK', ?_⟩⟩
    have hc5 := cell_kept (World.cell?_setCell_same' W ⟨w.heap.size + 1, 0, none⟩ (.int .i64 0) (by rw [hcr]; rfl)) (grownBy_putObj' _ D (.deferred none)) (fun r e => by cases e; exact ⟨_, hK', rfl⟩)
    refine ⟨.int .i64 0, ?_, by rw [HF.out], (hB.setCell (p := ⟨w.heap.size + 1, 0, none⟩) (by simp) _).trans (belowK_b (w := w) (Nat.le_refl _) _ D _ _ (by omega) hK' rfl rfl)⟩
    simp [results, Try.f24, go_sem, hc5]
  case stop =>
    rintro D cc pre W hD ⟨k, hk, hpre⟩ ⟨⟨rfl, ini, last, e1, e2, e3, hcr⟩, hB⟩ hK
    have HF : Hid (cmpI (lb (limbs n) last.1) (lb (limbs m) last.1) = cmpI n m) := cmpI_top HL.out last.2 (fun j h1 h2 => by
      subst e1
      rw [List.map_append] at hpre
      have hl3 := congrArg List.length hpre
      rw [downs_length] at hl3
      simp at hl3
      have hk1 : k = (k - 1) + 1 := by omega
      rw [hk1, downs_succ] at hpre
      obtain ⟨q1, q2⟩ := List.append_inj' hpre rfl
      simp at q2
      have : j ∈ ini.map (·.1) := by rw [q1, mem_downs (by omega)]; omega
      obtain ⟨p, hp, rfl⟩ := List.mem_map.1 this
      exact e2 p hp) e3
    clear e1 e2 e3 hpre
    gi_wp2
    refine ⟨by simp, .inl ⟨_, _, rfl, run_takeDeferred hK, ?_⟩⟩
    have hc5 := cell_kept hcr (grownBy_putObj' _ D (.deferred none)) (fun r e => by cases e; exact ⟨_, hK, rfl⟩)
    refine ⟨.int .i64 (cmpI n m), ?_, rfl, hB.trans (belowK_b (w := w) (Nat.le_refl _) W D _ _ (by omega) hK rfl rfl)⟩
    rw [HF.out] at hc5
    simp [results, Try.f24, go_sem, hc5]

set_option maxRecDepth 100000 in
set_option maxHeartbeats 1000000 in
theorem cmp_calls (w : World) (v u : Value) (n m : Nat) (h : Un w v n) (g : Un w u m) :
    Calls Try.prog 24 #[v, u] w fun e w' => e = .returned (.int .i64 (cmpI n m)) ∧ Below w.heap.size w w' := by
  by_cases hl : (limbs n).length = (limbs m).length
  · exact callsIn_wide.1 (cmp_same w v u n m h g hl)
  · obtain ⟨A, c, rfl, ⟨hc, hm⟩, hx, hr⟩ := h
    obtain ⟨A2, c2, rfl, ⟨hc2, hm2⟩, hx2, hr2⟩ := g
    clear hr hr2
    have hl1 : ((((limbs n).length : Nat) : Int) != (((limbs m).length : Nat) : Int)) = true := by rw [bne_iff_ne]; omega
    have HF := Lib.hid (cmpI_len hl)
    clear hl
    go_enter Try.func24, Try.ntmps24
    go_wp2_with (go_at_call 40; refine (cmpInt_calls _ _ _).mono ?_; rintro e w' ⟨rfl, rfl⟩)
    refine bodyPost_ret (v := .int .i64 (cmpI (limbs n).length (limbs m).length)) (by simp [results, Try.f24, go_sem]) rfl ⟨by rw [HF.out], ((Below.refl _ w).alloc (Nat.le_refl _) _).alloc (by simp) _⟩
end Go.Proofs.Ytnjkdplhoihkiaa
