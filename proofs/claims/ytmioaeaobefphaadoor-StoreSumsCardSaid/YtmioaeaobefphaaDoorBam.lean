/- Drawn regions inside a round. -/
import Derived.Test.YtmioaeaobefphaaDoorBae
import Derived.Test.YtmioaeaobefphaaDoorBal
import Derived.Test.YtmioaeaobefphaaDoorBak

namespace Go.Proofs.YtmioaeaobefphaaDoor.Pl
open Go
set_option linter.unusedVariables false

/-! A region that draws its order, inside a round of a range over a function. -/
section
variable {P : Program} {ro : Option Nat} {a : Act} {w : World}
theorem op_wf {o : Oper} {next : Act → World → Prop} {Q : Exit → Act → World → Prop} (hd : ∀ c, o.op ≠ .defer c) (h : o.wp P a w next Q) : o.wpIn (WF ro) 0 P a w next Q := by
  refine ⟨about_wf, ?_⟩
  rw [Oper.semAt_eq _ _ _ hd]
  unfold Oper.wp at h
  revert h
  generalize (execOp a.eval o).run P w = r
  intro h
  cases r with
  | ok x w' =>
    cases x with
    | value v => exact h
    | skip => exact h
    | defer d => exact h
    | enter f args => exact ⟨depth_wf, calls_wf.2 h⟩
    | row r args => exact ⟨depth_wf, fun c cs _ => let ⟨v, w', r, s⟩ := h c cs; ⟨v, w', r, stepsIn_wide.2 s⟩⟩
    | _ => exact h.elim
  | halt e w' =>
    cases e <;> first | exact h | exact h.elim
theorem opx_wf {ops : Array Oper} {Q : Exit → Act → World → Prop} {K K' : Act → World → Prop} {i : Nat} (hd : ∀ (o : Oper), ops[i]? = some o → ∀ c, o.op ≠ .defer c) (hL : ¬ LetsOut Q) (hK : ∀ a w, K a w → K' a w) (h : wpOp P ops Q i K a w) : wpOpIn (WF ro) 0 P ops Q i K' a w := by
  unfold wpOp at h
  unfold wpOpIn
  cases ho : ops[i]? with
  | none => rw [ho] at h; exact hK _ _ h
  | some o =>
    rw [ho] at h
    dsimp only at h ⊢
    by_cases hw : Region.wanted o (yielded ops a.tmps) = true
    · rw [if_pos hw] at h ⊢
      rcases h with h | h
      · exact Oper.wpIn_mono hK (op_wf (hd o ho) h)
      · exact absurd h.2 hL
    · rw [if_neg hw] at h ⊢
      exact ⟨about_wf, hK _ _ h⟩
theorem any_wf {md : Region.Mode} {ops : Array Oper} {Q : Exit → Act → World → Prop} (hd : ∀ (i : Nat) (o : Oper), ops[i]? = some o → ∀ c, o.op ≠ .defer c) (hL : ¬ LetsOut Q) : ∀ (fuel : Nat) (listed : Array Bool) (a : Act) (w : World), wpAny P md ops Q fuel listed a w → wpAnyIn (WF ro) 0 P md ops Q fuel listed a w
  | 0, _, _, _, h => h
  | fuel + 1, _, _, _, h => ⟨h.1, fun i hi => opx_wf (hd i) hL (fun a w h => any_wf hd hL fuel _ a w h) (h.2 i hi)⟩
def noDef : List Oper → Bool
  | [] => true
  | o :: l => (match o.op with
    | .defer _ => false
    | _ => true) && noDef l
theorem noDef_spec : ∀ {L : List Oper}, noDef L = true → ∀ (i : Nat) (o : Oper), L.toArray[i]? = some o → ∀ c, o.op ≠ .defer c
  | [], _, i, o, h, _ => by simp at h
  | x :: L, hk, i, o, h, c => by
    rw [noDef, Bool.and_eq_true] at hk
    cases i with
    | zero =>
      obtain rfl : x = o := by simpa using h
      intro e
      rw [e] at hk
      cases hk.1
    | succ i => exact noDef_spec hk.2 i o (by simpa using h) c
end
section
variable {P : Program} {Q : Exit → Act → World → Prop} {ro : Option Nat} {n : Nat} {ds : List Deferred} {cs : List Code} {l : List (Nat × Value)} {w : World}
theorem VI_draw {id : Nat} {L : List Oper} {S : World → Prop} (r : List (Bool × Nat × Nat)) (hm : P.follows .mixedOrders = true)
    (hQ : ∀ c (d : Option Tmp) v a w, KsI P ro Q cs (.panic c) (a.put d v) w → KsI P ro Q cs (.panic c) a w) (hL : ¬ LetsOut (KsI P ro Q cs)) (hk : drawOk n L r = true) (hn : noDef L = true) (hS : S w.drew)
    (h : S w.drew → wpA P L S (VI P Q ro n ds cs) r l w.drew) : VI P Q ro n ds (.region id L.toArray true :: cs) l w := by
  rw [drawOk, Bool.and_eq_true, Bool.and_eq_true, Bool.and_eq_true] at hk
  intro a ha
  refine wpIn_region_any hm (any_wf (noDef_spec hn) hL _ _ _ _ (wpAny_of_held (S := S) _ _ _ _ ?_))
  have := wpA_G (Q := KsI P ro Q cs) (f := 0) hk.1 hQ (dstOk_spec hk.2.2.2) r 0 l w.drew hk.2.1 (wpA_mono (fun l w hx => G_end (by rw [beq_iff]) fun _ a ha => hx a ha) r l w.drew (h hS))
  rw [Nat.add_zero, (beq_iff _ _).1 hk.2.2.1] at this
  exact this a _ ha (Lst.new _) hS
end
section
variable {P : Program} {Q : Exit → Act → World → Prop} {ro : Option Nat} {n : Nat} {ds : List Deferred} {cs : List Code} {l : List (Nat × Value)} {w : World}
theorem VI_drawG {id : Nat} {L : List Oper} {S : World → Prop} (hm : P.follows .mixedOrders = true) (hL : ¬ LetsOut (KsI P ro Q cs)) (hn : noDef L = true) (hS : S w.drew)
    (h : S w.drew → G P L S (KsI P ro Q cs) n ds L.toArray.size 0 l w.drew) : VI P Q ro n ds (.region id L.toArray true :: cs) l w := fun a ha =>
  wpIn_region_any hm (any_wf (noDef_spec hn) hL _ _ _ _ (wpAny_of_held (S := S) _ _ _ _ (h hS a _ ha (Lst.new _) hS)))
theorem G_VI {L : List Oper} {S : World → Prop} {f M : Nat} (hM : Nat.beq M (Nat.sub (2 ^ L.toArray.size) 1) = true) (h : VI P Q ro n ds cs l w) : G P L S (KsI P ro Q cs) n ds f M l w := G_end hM fun _ a ha => h a ha
theorem GI_plan {L : List Oper} {S : World → Prop} {M : Nat} (r : List (Bool × Nat × Nat)) (e f : Nat) {g : Nat} (hQ : ∀ c (d : Option Tmp) v a w, KsI P ro Q cs (.panic c) (a.put d v) w → KsI P ro Q cs (.panic c) a w) (hk : mixOk n L = true) (hg : Nat.beq (Nat.add r.length f) g = true)
    (hp : planOk (tabs L.toArray) e r M = true) (h : wpA P L S (G P L S (KsI P ro Q cs) n ds f e) r l w) : G P L S (KsI P ro Q cs) n ds g M l w :=
  G_plan (cs := []) (Q := KsI P ro Q cs) r e f hQ hk hg hp h
theorem GI_any {L : List Oper} {S : World → Prop} {M : Nat} (rs : List Nat) (f : Nat) {g : Nat} (hk : mixOk n L = true) (hg : Nat.beq (Nat.succ f) g = true) (hr : rdyOk (tabs L.toArray) M rs = true) (h : AllG P L S (KsI P ro Q cs) n ds f M l w rs) : G P L S (KsI P ro Q cs) n ds g M l w :=
  G_any (cs := []) (Q := KsI P ro Q cs) rs f hk hg hr h
end
/-- The frame of a round with two values. -/
theorem Ag.round2 {n : Nat} {tmps : Array Value} {l : List (Nat × Value)} {p q : Tmp} (h : Ag n [] { tmps := tmps, defers := [] } l) (hp : p < n) (hq : q < n) (v u : Value) : Ag n [] { tmps := (#[p, q].zip [v, u].toArray).foldl (fun t (p, v) => t.setIfInBounds p v) tmps, defers := [] } ((q, u) :: (p, v) :: l) := by
  have e : (#[p, q].zip [v, u].toArray).foldl (fun t (p, v) => t.setIfInBounds p v) tmps = (tmps.setIfInBounds p v).setIfInBounds q u := by simp
  rw [e]
  exact (h.put hp v).put hq u
theorem results_of0 {P : Program} {n : Nat} {fn : Func} {ds : List Deferred} {l : List (Nat × Value)} {w : World} (hr : fn.results = #[]) : ∀ a, Ag n ds a l → (results fn a.tmps).run P w = .ok (.tuple #[]) w := fun a ha => by
  unfold results
  rw [hr]
  simp
end Go.Proofs.YtmioaeaobefphaaDoor.Pl
/- The records of a log, one after another. -/
namespace Go.Proofs.YtmioaeaobefphaaDoor
open Go.RowKit 
set_option linter.unusedVariables false
set_option linter.unusedSimpArgs false
set_option maxRecDepth 100000
set_option maxHeartbeats 4000000
theorem OneR.cases (b : T.Byt) (h0 : b.length ≠ 0) : (∃ x m, T.one b = some (some (x, m))) ∨ ∃ c : Nat, (c = 300 ∨ c = 301) ∧ T.rd b = ([], 0, c) ∧ ∀ n t k c', OneR b n t k c' → k = 0 ∧ c' = (c : Int) := by
  cases ho : T.one b with
  | none => exact .inr ⟨301, .inr rfl, T.rd_cut h0 ho, fun n t k c' h => by unfold OneR at h; rw [ho] at h; exact h⟩
  | some y =>
    cases y with
    | none => exact .inr ⟨300, .inl rfl, T.rd_sum ho, fun n t k c' h => by unfold OneR at h; rw [ho] at h; exact h⟩
    | some p => exact .inl ⟨p.1, p.2, rfl⟩
theorem OneR.of_some {b : T.Byt} {x : T.Ent} {m : Nat} (ho : T.one b = some (some (x, m))) {n t : ByteArray} {k c : Int} (h : OneR b n t k c) : n = mkS x.1 ∧ t = mkS x.2 ∧ k = ((m : Nat) : Int) ∧ c = 0 := by
  unfold OneR at h; rw [ho] at h; exact h
theorem one_pos {b : T.Byt} {x : T.Ent} {m : Nat} (ho : T.one b = some (some (x, m))) : 0 < m ∧ m ≤ b.length := by
  obtain ⟨_, h1, h2, _⟩ := T.one_some ho
  rw [T.recd_len] at h1
  omega
/-- A call of yield with these arguments. -/
def YW (lp : Nat) (args : List Value) (X : World) (R : Ending → World → Prop) : Prop :=
  ∃ rec : Loop, X.heap[lp]? = some (.loop rec) ∧ args.length = rec.params.size ∧ RoundIn Fence.wide 0 Tryd.prog lp rec.fn ((rec.params.zip args.toArray).foldl (fun tmps (t, a) => tmps.setIfInBounds t a) rec.tmps) rec.assign rec.body X R
theorem YW.of {lp fn df : Nat} {ps : Array Tmp} {vs : List Value} {X : World} {R : Ending → World → Prop} {rec : Loop} {tmps : Array Value} {ac bd : Code} (hrec : rec = { state := .ready, pending := none, fn := fn, tmps := tmps, params := ps, assign := ac, body := bd, defers := df })
    (hl : X.heap[lp]? = some (.loop rec)) (hs : vs.length = ps.size) (h : RoundIn Fence.wide 0 Tryd.prog lp fn ((ps.zip vs.toArray).foldl (fun tmps (t, a) => tmps.setIfInBounds t a) tmps) ac bd X R) : YW lp vs X R := by
  subst hrec
  exact ⟨_, hl, hs, h⟩
theorem Pl.post_ret0in {n : Nat} {l : List (Nat × Value)} {w : World} {fn : Func} {R : Ending → World → Prop} {id id2 : Nat} {cs cs1 cs2 cs3 : List Code} {N : Act → World → Prop} (hr : fn.results = #[]) (h : R (.returned (.tuple #[])) w) :
    Pl.V Tryd.prog (Exit.inBlock id2 (Pl.Ks Tryd.prog (Exit.then N (Pl.Ks Tryd.prog (Exit.inBlock id (Pl.Ks Tryd.prog (bodyPost Tryd.prog fn R) cs)) cs1)) cs2)) n [] (.ret :: cs3) l w := fun a ha => wp_ret (by
  refine Pl.Ks_ret (cs := cs3) ?_
  show Pl.Ks Tryd.prog (Exit.then N (Pl.Ks Tryd.prog (Exit.inBlock id (Pl.Ks Tryd.prog (bodyPost Tryd.prog fn R) cs)) cs1)) cs2 .ret a w
  refine Pl.Ks_ret ?_
  show Pl.Ks Tryd.prog (Exit.inBlock id (Pl.Ks Tryd.prog (bodyPost Tryd.prog fn R) cs)) cs1 .ret a w
  refine Pl.Ks_ret ?_
  show Pl.Ks Tryd.prog (bodyPost Tryd.prog fn R) cs .ret a w
  refine Pl.Ks_ret ⟨ha.defers, .tuple #[], ?_, h⟩
  unfold results
  rw [hr]
  simp)
theorem rd_on {bs : T.Byt} {ls : List T.Ent} {k : Nat} {x : T.Ent} {m : Nat} (h : T.rd bs = (ls ++ (T.rd (bs.drop k)).1, k + (T.rd (bs.drop k)).2.1, (T.rd (bs.drop k)).2.2)) (ho : T.one (bs.drop k) = some (some (x, m))) :
    T.rd bs = ((ls ++ [x]) ++ (T.rd (bs.drop (k + m))).1, (k + m) + (T.rd (bs.drop (k + m))).2.1, (T.rd (bs.drop (k + m))).2.2) := by
  have h2 := T.rd_ok ho
  rw [List.drop_drop] at h2
  rw [h, h2]
  simp only [List.append_assoc, List.singleton_append, Nat.add_assoc]
theorem records_calls (w : World) {v : Value} {lo : Nat} {bs : T.Byt} (h : By w lo v bs) :
    Calls Tryd.prog 28 #[v] w fun e w' => ∃ N, e = .returned (.func (.func 34) #[] #[.pointer (some ⟨N, 0, none⟩)]) ∧ w.heap.size ≤ N ∧ Pl.Cb w' N 22 [v] ∧ Pl.Ex w w' := by
  obtain ⟨A, c, rfl, hn, hc⟩ := h.sh
  refine Pl.calls_by (n := 4) (vs := [.slice A bs.length c]) Tryd.func28 rfl (by kernel_rfl) (by simp) ?_
  repeat refine Pl.V_seq ?_
  refine Pl.V_region (by kernel_rfl) ?_
  refine Pl.qA_bx (cs := [.slice A bs.length c]) rfl rfl rfl rfl rfl rfl (fun Y hY => trivial) ?_
  intro N1 w1 hE1 hN_N1 k_N1_0
  have z_N1 := Pl.Cb.lt k_N1_0
  have sz1 := Pl.Ex.size hE1
  refine Pl.qA_go trivial rfl ?_
  refine Pl.pA_end ?_
  repeat refine Pl.V_seq ?_
  refine Pl.V_region (by kernel_rfl) ?_
  refine Pl.qA_func trivial rfl rfl rfl rfl rfl rfl ?_
  refine Pl.qA_go trivial rfl ?_
  refine Pl.pA_end ?_
  repeat refine Pl.V_seq ?_
  exact Pl.post_ret rfl rfl ⟨_, rfl, by omega, k_N1_0, hE1⟩
theorem recs1_calls (w : World) (v : Value) (lo : Nat) (bs : T.Byt) (N lp : Nat) (J : List T.Ent → Nat → World → Prop) (Jx : List T.Ent → Nat → Nat → World → Prop) (h0 : J [] 0 w)
    (hJ : ∀ l q X, J l q X → Pl.Cb X N 22 [v] ∧ By X lo v bs ∧ Gl X) (hI : ∀ l q X Y, J l q X → Pl.Ex X Y → J l q Y)
    (hok : ∀ l q (x : T.Ent) m X, J l q X → q < bs.length → T.one (bs.drop q) = some (some (x, m)) → YW lp [.agg #[.string (mkS x.1), .string (mkS x.2), .int .i64 ((q + m : Nat) : Int)], .nilIface] X fun e X' => e = .returned (.bool true) ∧ J (l ++ [x]) (q + m) X')
    (herr : ∀ l q n t (c : Nat) X, J l q X → q < bs.length → (c = 300 ∨ c = 301) → T.rd (bs.drop q) = ([], 0, c) → YW lp [.agg #[.string n, .string t, .int .i64 ((q + 0 : Nat) : Int)], errW ((c : Nat) : Int)] X fun e X' => e = .returned (.bool false) ∧ Jx l q c X') :
    Calls Tryd.prog 34 #[.func (.yield lp) #[] #[], .pointer (some ⟨N, 0, none⟩)] w fun e w' => e = .returned (.tuple #[]) ∧ ((∃ l, J l bs.length w' ∧ T.rd bs = (l, bs.length, 0)) ∨ ∃ l q c, Jx l q c w' ∧ T.rd bs = (l, q, c) ∧ (c = 300 ∨ c = 301)) := by
  obtain ⟨kn0, hb0, hg0⟩ := hJ _ _ _ h0
  obtain ⟨A, c, rfl, hn, hc⟩ := hb0.sh
  refine Pl.calls_by (n := 33) (vs := [.func (.yield lp) #[] #[], .pointer (some ⟨N, 0, none⟩)]) Tryd.func34 rfl (by kernel_rfl) (by simp) ?_
  repeat refine Pl.V_seq ?_
  refine Pl.V_region (by kernel_rfl) ?_
  refine Pl.qA_go trivial rfl ?_
  refine Pl.pA_end ?_
  repeat refine Pl.V_seq ?_
  refine Pl.V_block ?_
  repeat refine Pl.V_seq ?_
  refine Pl.V_sub [(0, .func (.yield lp) #[] #[]), (1, .pointer (some ⟨N, 0, none⟩)), (3, .int .i64 0)] (Pl.subl_cons rfl (Pl.subl_cons rfl (Pl.subl_cons rfl Pl.subl_nil))) ?_
  refine Pl.V_loop (fun k l' w' => ∃ q ls, q + k = bs.length ∧ J ls q w' ∧ T.rd bs = (ls ++ (T.rd (bs.drop q)).1, q + (T.rd (bs.drop q)).2.1, (T.rd (bs.drop q)).2.2) ∧ l' = [(0, .func (.yield lp) #[] #[]), (1, .pointer (some ⟨N, 0, none⟩)), (3, .int .i64 ((q : Nat) : Int))]) bs.length ⟨0, [], by omega, h0, by simp, rfl⟩ ?_
  clear h0 kn0 hb0 hg0
  rintro k _ w ⟨q, ls, hq, hj, hrd, rfl⟩
  obtain ⟨kn, hb, hg⟩ := hJ _ _ _ hj
  by_cases hlt : q < bs.length
  · repeat refine Pl.V_seq ?_
    refine Pl.V_region (by kernel_rfl) ?_
    refine Pl.qA_go trivial rfl ?_
    refine Pl.qA_lcw (v := .slice A bs.length c) Tryd.underlying22 rfl (Pl.Cb.at (j := 0) kn rfl) trivial rfl rfl rfl rfl rfl ?_
    refine Pl.qA_ln Tryd.underlying22 trivial rfl rfl rfl rfl rfl ?_
    refine Pl.qA_b (v := .bool true) (fun X => Pl.r_lss (decide_eq_true (by omega)) X) trivial rfl rfl rfl rfl rfl rfl ?_
    refine Pl.pA_end ?_
    repeat refine Pl.V_seq ?_
    refine Pl.V_true rfl ?_
    repeat refine Pl.V_seq ?_
    refine Pl.V_skip ?_
    repeat refine Pl.V_seq ?_
    refine Pl.V_block ?_
    have hrs := hb.rest (l := q) (by omega)
    have hl0 : (bs.drop q).length ≠ 0 := by rw [List.length_drop]; omega
    rcases OneR.cases (bs.drop q) hl0 with ⟨x, m, ho⟩ | ⟨ec, hec, hre, hall⟩
    · repeat refine Pl.V_seq ?_
      refine Pl.V_region (by kernel_rfl) ?_
      refine Pl.qA_lcw (v := .slice A bs.length c) Tryd.underlying22 rfl (Pl.Cb.at (j := 0) kn rfl) trivial rfl rfl rfl rfl rfl ?_
      refine Pl.qA_go trivial rfl ?_
      refine Pl.qA_sl (kl := .i64) (kh := .i64) (lo' := q) (hi' := bs.length) (s := 1) Tryd.underlying22 (by kernel_rfl) (.inr ⟨_, _, rfl, rfl, rfl⟩) (.inl ⟨rfl, rfl, by omega⟩) (by omega) (by omega) trivial rfl rfl rfl rfl rfl ?_
      refine Pl.pA_call rfl rfl rfl rfl rfl (fun u X => Pl.enters Tryd.func35 (by kernel_rfl) rfl u X) ?_
      refine Calls.mono (first_calls _ (By.ex hrs (Pl.Ex.refl _)) (hg.ex (Pl.Ex.refl _))) ?_
      rintro e w1 ⟨n1, t1, k1, c1, rfl, hon, hE1⟩
      obtain ⟨rfl, rfl, rfl, rfl⟩ := OneR.of_some ho hon
      rw [if_pos rfl]
      obtain ⟨hm0, hml⟩ := one_pos ho
      rw [List.length_drop] at hml
      have sz1 := Pl.Ex.size hE1
      refine ⟨_, rfl, trivial, ?_⟩
      refine Pl.qA_go trivial rfl ?_
      refine Pl.qA_al (z := .agg #[.string ⟨#[]⟩, .string ⟨#[]⟩]) (by kernel_rfl) rfl rfl rfl rfl (fun Y hY => trivial) ?_
      intro N1 w2 hE2 hN_N1 k_N1_0
      have z_N1 := Pl.Cb.lt k_N1_0
      have sz2 := Pl.Ex.size hE2
      replace k_N1_0 : Pl.Cb w2 N1 24 [.string ⟨#[]⟩, .string ⟨#[]⟩] := k_N1_0
      refine Pl.qA_sw (new := [.string (mkS x.1), .string (mkS x.2)]) k_N1_0 (by kernel_rfl) rfl (by simp [Value.oneCell']) rfl rfl rfl rfl rfl rfl (fun Y hY => trivial) ?_
      intro w3 hX3 k_N1_1
      have hE3 := Pl.Ex.xs hE2 hX3 (by omega)
      have sz3 := Pl.Xs.size hX3
      refine Pl.qA_go trivial rfl ?_
      refine Pl.pA_end ?_
      repeat refine Pl.V_seq ?_
      refine Pl.V_region (by kernel_rfl) ?_
      refine Pl.qA_go trivial rfl ?_
      refine Pl.qA_b (v := .int .i64 (((q + m) : Nat) : Int)) (fun X => Pl.r_add (Pl.a64 (a := q) (b := m) rfl rfl (by omega)) X) trivial rfl rfl rfl rfl rfl rfl ?_
      refine Pl.qA_go trivial rfl ?_
      refine Pl.pA_end ?_
      repeat refine Pl.V_seq ?_
      refine Pl.V_regionY (by kernel_rfl) ?_
      refine Pl.Y_op ?_
      refine Pl.qA_go trivial rfl ?_
      refine Pl.pA_end ?_
      refine Pl.Y_op ?_
      refine Pl.qA_lrw (part := [.string (mkS x.1), .string (mkS x.2)]) k_N1_1 rfl Tryd.underlying24 rfl (by kernel_rfl) trivial rfl rfl rfl rfl rfl ?_
      refine Pl.pA_end ?_
      refine Pl.Y_op ?_
      refine Pl.qA_go trivial rfl ?_
      refine Pl.pA_end ?_
      refine Pl.Y_op ?_
      refine Pl.qA_ev (.agg #[.string (mkS x.1), .string (mkS x.2), .int .i64 (((q + m) : Nat) : Int)]) trivial rfl rfl rfl rfl (fun X => by kernel_rfl) ?_
      refine Pl.pA_end ?_
      refine Pl.Y_op ?_
      refine Pl.qA_go trivial rfl ?_
      refine Pl.pA_end ?_
      have hj2 := hI _ _ _ _ hj (Pl.Ex.trans hE1 hE3)
      obtain ⟨rec, hrec, hrs, hrnd⟩ := hok _ _ x m _ hj2 hlt ho
      refine Pl.Y_yield rfl rfl rfl rfl rfl rfl hrec hrs (hrnd.mono ?_)
      rintro e w9 ⟨rfl, hj9⟩
      refine ⟨_, rfl, Pl.Y_op ?_⟩
      refine Pl.qA_un (v := .bool false) trivial rfl rfl rfl rfl rfl (fun X => rfl) ?_
      refine Pl.pA_end ?_
      refine Pl.Y_op ?_
      refine Pl.qA_go trivial rfl ?_
      refine Pl.pA_end ?_
      refine Pl.Y_op ?_
      refine Pl.qA_go trivial rfl ?_
      refine Pl.pA_end ?_
      refine Pl.Y_op ?_
      refine Pl.qA_b (v := .bool false) (fun X => rfl) trivial rfl rfl rfl rfl rfl rfl ?_
      refine Pl.pA_end ?_
      refine Pl.Y_op ?_
      refine Pl.qA_go trivial rfl ?_
      refine Pl.pA_end ?_
      refine Pl.Y_end ?_
      repeat refine Pl.V_seq ?_
      refine Pl.V_false rfl ?_
      repeat refine Pl.V_seq ?_
      refine Pl.V_skip ?_
      repeat refine Pl.V_seq ?_
      refine Pl.V_endblock ?_
      refine Pl.V_again [(0, .func (.yield lp) #[] #[]), (1, .pointer (some ⟨N, 0, none⟩)), (3, .int .i64 (((q + m) : Nat) : Int))] (Pl.subl_cons rfl (Pl.subl_cons rfl (Pl.subl_cons rfl Pl.subl_nil))) (k' := bs.length - (q + m)) (by omega) ⟨q + m, ls ++ [x], by omega, hj9, rd_on hrd ho, rfl⟩
    · repeat refine Pl.V_seq ?_
      refine Pl.V_region (by kernel_rfl) ?_
      refine Pl.qA_lcw (v := .slice A bs.length c) Tryd.underlying22 rfl (Pl.Cb.at (j := 0) kn rfl) trivial rfl rfl rfl rfl rfl ?_
      refine Pl.qA_go trivial rfl ?_
      refine Pl.qA_sl (kl := .i64) (kh := .i64) (lo' := q) (hi' := bs.length) (s := 1) Tryd.underlying22 (by kernel_rfl) (.inr ⟨_, _, rfl, rfl, rfl⟩) (.inl ⟨rfl, rfl, by omega⟩) (by omega) (by omega) trivial rfl rfl rfl rfl rfl ?_
      refine Pl.pA_call rfl rfl rfl rfl rfl (fun u X => Pl.enters Tryd.func35 (by kernel_rfl) rfl u X) ?_
      refine Calls.mono (first_calls _ (By.ex hrs (Pl.Ex.refl _)) (hg.ex (Pl.Ex.refl _))) ?_
      rintro e w1 ⟨n1, t1, k1, c1, rfl, hon, hE1⟩
      obtain ⟨rfl, rfl⟩ := hall _ _ _ _ hon
      rw [if_neg (by omega)]
      have sz1 := Pl.Ex.size hE1
      refine ⟨_, rfl, trivial, ?_⟩
      refine Pl.qA_go trivial rfl ?_
      refine Pl.qA_al (z := .agg #[.string ⟨#[]⟩, .string ⟨#[]⟩]) (by kernel_rfl) rfl rfl rfl rfl (fun Y hY => trivial) ?_
      intro N1 w2 hE2 hN_N1 k_N1_0
      have z_N1 := Pl.Cb.lt k_N1_0
      have sz2 := Pl.Ex.size hE2
      replace k_N1_0 : Pl.Cb w2 N1 24 [.string ⟨#[]⟩, .string ⟨#[]⟩] := k_N1_0
      refine Pl.qA_sw (new := [.string n1, .string t1]) k_N1_0 (by kernel_rfl) rfl (by simp [Value.oneCell']) rfl rfl rfl rfl rfl rfl (fun Y hY => trivial) ?_
      intro w3 hX3 k_N1_1
      have hE3 := Pl.Ex.xs hE2 hX3 (by omega)
      have sz3 := Pl.Xs.size hX3
      refine Pl.qA_go trivial rfl ?_
      refine Pl.pA_end ?_
      repeat refine Pl.V_seq ?_
      refine Pl.V_region (by kernel_rfl) ?_
      refine Pl.qA_go trivial rfl ?_
      refine Pl.qA_b (v := .int .i64 (((q + 0) : Nat) : Int)) (fun X => Pl.r_add (Pl.a64 (a := q) (b := 0) rfl rfl (by omega)) X) trivial rfl rfl rfl rfl rfl rfl ?_
      refine Pl.qA_go trivial rfl ?_
      refine Pl.pA_end ?_
      repeat refine Pl.V_seq ?_
      refine Pl.V_regionY (by kernel_rfl) ?_
      refine Pl.Y_op ?_
      refine Pl.qA_go trivial rfl ?_
      refine Pl.pA_end ?_
      refine Pl.Y_op ?_
      refine Pl.qA_lrw (part := [.string n1, .string t1]) k_N1_1 rfl Tryd.underlying24 rfl (by kernel_rfl) trivial rfl rfl rfl rfl rfl ?_
      refine Pl.pA_end ?_
      refine Pl.Y_op ?_
      refine Pl.qA_go trivial rfl ?_
      refine Pl.pA_end ?_
      refine Pl.Y_op ?_
      refine Pl.qA_ev (.agg #[.string n1, .string t1, .int .i64 (((q + 0) : Nat) : Int)]) trivial rfl rfl rfl rfl (fun X => by kernel_rfl) ?_
      refine Pl.pA_end ?_
      refine Pl.Y_op ?_
      refine Pl.qA_go trivial rfl ?_
      refine Pl.pA_end ?_
      have hj2 := hI _ _ _ _ hj (Pl.Ex.trans hE1 hE3)
      obtain ⟨rec, hrec, hrs, hrnd⟩ := herr _ _ _ _ ec _ hj2 hlt hec hre
      refine Pl.Y_yield rfl rfl rfl rfl rfl rfl hrec hrs (hrnd.mono ?_)
      rintro e w9 ⟨rfl, hj9⟩
      refine ⟨_, rfl, Pl.Y_op ?_⟩
      refine Pl.qA_un (v := .bool true) trivial rfl rfl rfl rfl rfl (fun X => rfl) ?_
      refine Pl.pA_end ?_
      refine Pl.Y_op ?_
      refine Pl.qA_go trivial rfl ?_
      refine Pl.pA_end ?_
      refine Pl.Y_op ?_
      refine Pl.qA_go trivial rfl ?_
      refine Pl.pA_end ?_
      refine Pl.Y_op ?_
      refine Pl.qA_go trivial rfl ?_
      refine Pl.pA_end ?_
      refine Pl.Y_op ?_
      refine Pl.qA_go trivial rfl ?_
      refine Pl.pA_end ?_
      refine Pl.Y_end ?_
      repeat refine Pl.V_seq ?_
      refine Pl.V_true rfl ?_
      repeat refine Pl.V_seq ?_
      rw [hre] at hrd
      simp only [List.append_nil, Nat.add_zero] at hrd
      exact Pl.post_ret0in rfl ⟨rfl, .inr ⟨_, _, _, hj9, hrd, hec⟩⟩
  · repeat refine Pl.V_seq ?_
    refine Pl.V_region (by kernel_rfl) ?_
    refine Pl.qA_go trivial rfl ?_
    refine Pl.qA_lcw (v := .slice A bs.length c) Tryd.underlying22 rfl (Pl.Cb.at (j := 0) kn rfl) trivial rfl rfl rfl rfl rfl ?_
    refine Pl.qA_ln Tryd.underlying22 trivial rfl rfl rfl rfl rfl ?_
    refine Pl.qA_b (v := .bool false) (fun X => Pl.r_lss (decide_eq_false (by omega)) X) trivial rfl rfl rfl rfl rfl rfl ?_
    refine Pl.pA_end ?_
    repeat refine Pl.V_seq ?_
    refine Pl.V_false rfl ?_
    repeat refine Pl.V_seq ?_
    refine Pl.V_exit ?_
    obtain rfl : q = bs.length := by omega
    rw [List.drop_length, T.rd_nil] at hrd
    simp only [List.append_nil, Nat.add_zero] at hrd
    exact Pl.post_none rfl ⟨rfl, .inl ⟨ls, hj, hrd⟩⟩
end Go.Proofs.YtmioaeaobefphaaDoor
/- Entries; loops over the records. -/
namespace Go.Proofs.YtmioaeaobefphaaDoor
open Go.RowKit 
set_option linter.unusedVariables false
set_option linter.unusedSimpArgs false
set_option maxRecDepth 100000
set_option maxHeartbeats 4000000
/-- Entries, cell by cell. -/
def cE (l : List T.Ent) : List Value := l.flatMap fun x => [.string (mkS x.1), .string (mkS x.2)]
theorem cE_len : ∀ (l : List T.Ent), (cE l).length = l.length * 2
  | [] => rfl
  | x :: l => by show ([_, _] ++ cE l).length = _; rw [List.length_append, cE_len l, List.length_cons]; simp; omega
theorem cE_snoc (l : List T.Ent) (x : T.Ent) : cE (l ++ [x]) = cE l ++ [.string (mkS x.1), .string (mkS x.2)] := by simp [cE]
theorem cE_one (l : List T.Ent) : ∀ c ∈ cE l, c.oneCell' = true := fun c hc => by
  obtain ⟨x, _, hx⟩ := List.mem_flatMap.1 hc
  simp at hx
  rcases hx with rfl | rfl <;> rfl
/-- A slice of these entries. -/
def Es (w : World) (lo : Nat) (v : Value) (l : List T.Ent) : Prop := Pl.Sl w lo v l.length (cE l)
def Ge (w : World) (base : Nat) (v : Value) (l : List T.Ent) : Prop := Pl.Gr (fun _ => True) w base 24 2 v l.length (cE l)
theorem Xs.putObj (X : World) (lp : Nat) (o' : Obj) : Pl.Xs [lp] X (X.putObj lp o') :=
  ⟨rfl, rfl, rfl, by simp, fun k hk hn => World.putObj_heap_other (fun e => hn (by simp [e]))⟩
theorem Xs.obj {Bs : List Nat} {w w' : World} {k : Nat} {o : Obj} (h : Pl.Xs Bs w w') (ho : w.heap[k]? = some o) (hn : k ∉ Bs) : w'.heap[k]? = some o := (h.block k (Array.getElem?_eq_some_iff.1 ho).1 hn).trans ho
theorem Xs.of_grownBy {w w' : World} {row : Option Nat} (h : w.grownBy w' row) : Pl.Xs row.toList w w' := ⟨h.os, h.tape, h.output, h.size, fun k hk hn => h.block k hk (by cases row <;> simp_all)⟩
theorem Ex.xsl {w X Y : World} {Cs : List Nat} (h : Pl.Ex w X) (hX : Pl.Xs Cs X Y) (hC : ∀ k ∈ Cs, w.heap.size ≤ k) : Pl.Ex w Y :=
  ⟨hX.os.trans h.os, hX.tape.trans h.tape, hX.output.trans h.output, Nat.le_trans h.size hX.size, fun k hk => (hX.block k (Nat.lt_of_lt_of_le hk h.size) fun hc => by have := hC k hc; omega).trans (h.block k hk)⟩
/-- What a loop over an iterator leaves standing. -/
structure Lq (w : World) (D : Nat) (rec : Loop) (X : World) : Prop where
  loop : X.heap[D + 1]? = some (.loop rec)
  dfr : X.heap[D]? = some (.deferred (some []))
  ext : Pl.Ex w X
theorem Lq.xs {w X Y : World} {D : Nat} {rec : Loop} (h : Lq w D rec X) {Cs : List Nat} (hX : Pl.Xs Cs X Y) (hC : ∀ k ∈ Cs, w.heap.size ≤ k ∧ k ≠ D ∧ k ≠ D + 1) : Lq w D rec Y :=
  ⟨Xs.obj hX h.loop fun hc => (hC _ hc).2.2 rfl, Xs.obj hX h.dfr fun hc => (hC _ hc).2.1 rfl, Ex.xsl h.ext hX fun k hk => (hC k hk).1⟩
theorem Lq.ex {w X Y : World} {D : Nat} {rec : Loop} (h : Lq w D rec X) (k : Pl.Ex X Y) : Lq w D rec Y := h.xs (Pl.Xs.ex (Bs := []) k) (by simp)
theorem Lq.lt {w X : World} {D : Nat} {rec : Loop} (h : Lq w D rec X) : D + 1 < X.heap.size := (Array.getElem?_eq_some_iff.1 h.loop).1
theorem Lq.put {w X : World} {D : Nat} {rec : Loop} (h : Lq w D rec X) (hD : w.heap.size ≤ D) (rec' : Loop) : Lq w D rec' (X.putObj (D + 1) (.loop rec')) :=
  ⟨World.putObj_heap_same h.lt, Xs.obj (Xs.putObj X (D + 1) _) h.dfr (by simp), Ex.xsl h.ext (Xs.putObj X (D + 1) _) (by simp; omega)⟩
theorem Lq.fin {P : Program} {w X : World} {D : Nat} {rec : Loop} (h : Lq w D { rec with state := .busy } X) (hD : w.heap.size ≤ D) (hs : rec.state = .ready) (hp : rec.pending = none) :
    ∃ v X', (Instr.endRound (D + 1) none).run P X = .ok v X' ∧ v = .bool true ∧ Lq w D rec X' ∧ Pl.Xs [D + 1] X X' := by
  refine ⟨_, _, run_endRound none h.loop, rfl, ?_⟩
  have e : ({ { rec with state := LoopState.busy } with state := if (none : Option Code).isNone then LoopState.ready else LoopState.done, pending := none } : Loop) = rec := by
    cases rec; simp at hs hp; subst hs hp; rfl
  rw [e]
  exact ⟨h.put hD rec, Xs.putObj _ _ _⟩
theorem Lq.finBy {P : Program} {w X : World} {D : Nat} {rec : Loop} (h : Lq w D { rec with state := .busy } X) (hD : w.heap.size ≤ D) (c : Code) :
    ∃ v X', (Instr.endRound (D + 1) (some c)).run P X = .ok v X' ∧ v = .bool false ∧ Lq w D { rec with state := .done, pending := some c } X' ∧ Pl.Xs [D + 1] X X' :=
  ⟨_, _, run_endRound (some c) h.loop, rfl, h.put hD { rec with state := .done, pending := some c }, Xs.putObj _ _ _⟩
section
variable {P : Program} {ro : Option Nat}
theorem Pl.KsI_out {Q : Exit → Act → World → Prop} : ∀ {cs : List Code} {a : Act} {w : World}, Pl.KsI P ro Q cs .outgrown a w → Q .outgrown a w
  | [], _, _, h => h
  | _ :: cs, _, _, h => Pl.KsI_out (cs := cs) h
theorem Pl.KsI_pan {Q : Exit → Act → World → Prop} {c : _} : ∀ {cs : List Code} {a : Act} {w : World}, Pl.KsI P ro Q cs (.panic c) a w → Q (.panic c) a w
  | [], _, _, h => h
  | _ :: cs, _, _, h => Pl.KsI_pan (cs := cs) h
theorem Pl.lets_rnd {q id : Nat} {R : Ending → World → Prop} {cs cs' : List Code} : ¬ LetsOut (Pl.KsI P ro (Exit.inBlock id (Pl.KsI P ro (roundPost P q R) cs)) cs') := fun h => by
  obtain ⟨a, w, h⟩ := h
  exact Pl.KsI_out (Q := roundPost P q R) (show Pl.KsI P ro (roundPost P q R) cs .outgrown a w from Pl.KsI_out (Q := Exit.inBlock id (Pl.KsI P ro (roundPost P q R) cs)) h)
theorem Pl.pan_rnd {q id : Nat} {R : Ending → World → Prop} {cs cs' : List Code} : ∀ c (d : Option Tmp) v a w, Pl.KsI P ro (Exit.inBlock id (Pl.KsI P ro (roundPost P q R) cs)) cs' (.panic c) (a.put d v) w → Pl.KsI P ro (Exit.inBlock id (Pl.KsI P ro (roundPost P q R) cs)) cs' (.panic c) a w := fun c d v a w h =>
  False.elim (Pl.KsI_pan (Q := roundPost P q R) (show Pl.KsI P ro (roundPost P q R) cs (.panic c) (a.put d v) w from Pl.KsI_pan (Q := Exit.inBlock id (Pl.KsI P ro (roundPost P q R) cs)) h))
theorem Pl.results_cs3 {n : Nat} {ds : List Deferred} {l : List (Nat × Value)} {fn : Func} {w : World} {t t2 t3 : Tmp} {N N2 N3 : Nat} {ty ty2 ty3 : TypeId} {v v2 v3 : Value} {a : Act} (ha : Pl.Ag n ds a l) (hr : fn.results = #[.cell t ty, .cell t2 ty2, .cell t3 ty3]) (hv : Pl.look l t = some (.pointer (some ⟨N, 0, none⟩))) (hv2 : Pl.look l t2 = some (.pointer (some ⟨N2, 0, none⟩))) (hv3 : Pl.look l t3 = some (.pointer (some ⟨N3, 0, none⟩))) (hl : (loadVar ty ⟨N, 0, none⟩).run P w = .ok v w) (hl2 : (loadVar ty2 ⟨N2, 0, none⟩).run P w = .ok v2 w) (hl3 : (loadVar ty3 ⟨N3, 0, none⟩).run P w = .ok v3 w) :
    (results fn a.tmps).run P w = .ok (.tuple #[v, v2, v3]) w := by
  unfold results
  rw [hr]
  have e : a.tmps.getD t undef = .pointer (some ⟨N, 0, none⟩) := by rw [Array.getD_eq_getD_getElem?, ha.look t _ hv]; rfl
  have e2 : a.tmps.getD t2 undef = .pointer (some ⟨N2, 0, none⟩) := by rw [Array.getD_eq_getD_getElem?, ha.look t2 _ hv2]; rfl
  have e3 : a.tmps.getD t3 undef = .pointer (some ⟨N3, 0, none⟩) := by rw [Array.getD_eq_getD_getElem?, ha.look t3 _ hv3]; rfl
  simp only [List.mapM_toArray, List.mapM_cons, List.mapM_nil, e, e2, e3, asAddr]
  simp [hl, hl2, hl3, Sem.run_bind, Result.andThen]
end
/-- Read, in its loop: these entries are read, so far the records go. -/
structure RJ (w : World) (D : Nat) (rec : Loop) (v : Value) (N0 N1 N2 N3 N4 N5 : Nat) (l : List T.Ent) (q : Nat) (X : World) : Prop where
  log : Pl.Cb X N0 22 [v]
  c1 : Pl.Cb X N1 29 [.slice none 0 0]
  c2 : Pl.Cb X N2 3 [.int .i64 0]
  c3 : Pl.Cb X N3 26 [.int .i64 0]
  lq : Lq w D rec X
  row : ∃ rv, Pl.Cb X N4 29 [rv] ∧ Ge X (D + 2) rv l
  at_ : Pl.Cb X N5 3 [.int .i64 ((q : Nat) : Int)]
  len : l.length ≤ q
theorem RJ.ex {w X Y : World} {D : Nat} {rec : Loop} {v : Value} {N0 N1 N2 N3 N4 N5 : Nat} {l : List T.Ent} {q : Nat} (h : RJ w D rec v N0 N1 N2 N3 N4 N5 l q X) (k : Pl.Ex X Y) : RJ w D rec v N0 N1 N2 N3 N4 N5 l q Y :=
  ⟨h.log.ex k, h.c1.ex k, h.c2.ex k, h.c3.ex k, h.lq.ex k, h.row.elim fun rv hr => ⟨rv, hr.1.ex k, Pl.Gr.ex hr.2 k⟩, h.at_.ex k, h.len⟩
theorem Ge.xs {w w' : World} {base : Nat} {v : Value} {l : List T.Ent} {Bs : List Nat} (h : Ge w base v l) (k : Pl.Xs Bs w w') (hB : ∀ N ∈ Bs, N < base) : Ge w' base v l := Pl.Gr.keep h k fun g hg hm => by have := hB g hm; have := (Pl.Gr.lies h g hg).1; omega
theorem RJ.put {w X : World} {D : Nat} {rec rec' : Loop} {v : Value} {N0 N1 N2 N3 N4 N5 : Nat} {l : List T.Ent} {q : Nat} (h : RJ w D rec v N0 N1 N2 N3 N4 N5 l q X) (hD : w.heap.size ≤ D) (ho : N0 < D ∧ N1 < D ∧ N2 < D ∧ N3 < D ∧ N4 < D ∧ N5 < D) {Y : World} (hx : Pl.Xs [D + 1] X Y) (hL : Lq w D rec' Y) : RJ w D rec' v N0 N1 N2 N3 N4 N5 l q Y :=
  ⟨h.log.xs hx (by simp; omega), h.c1.xs hx (by simp; omega), h.c2.xs hx (by simp; omega), h.c3.xs hx (by simp; omega), hL, h.row.elim fun rv hr => ⟨rv, hr.1.xs hx (by simp; omega), Ge.xs hr.2 hx (by simp)⟩, h.at_.xs hx (by simp; omega), h.len⟩
/-- Read left its loop at what is wrong. -/
structure RX (w : World) (D : Nat) (rec : Loop) (N1 N2 N3 : Nat) (l : List T.Ent) (q c : Nat) (X : World) : Prop where
  lq : Lq w D rec X
  row : ∃ rv, Pl.Cb X N1 29 [rv] ∧ Ge X (D + 2) rv l
  at_ : Pl.Cb X N2 3 [.int .i64 ((q : Nat) : Int)]
  why : Pl.Cb X N3 26 [.int .i64 ((c : Nat) : Int)]
  len : l.length ≤ 100000000
theorem RX.put {w X : World} {D : Nat} {rec rec' : Loop} {N1 N2 N3 : Nat} {l : List T.Ent} {q c : Nat} (h : RX w D rec N1 N2 N3 l q c X) (ho : N1 < D ∧ N2 < D ∧ N3 < D) {Y : World} (hx : Pl.Xs [D + 1] X Y) (hL : Lq w D rec' Y) : RX w D rec' N1 N2 N3 l q c Y :=
  ⟨hL, h.row.elim fun rv hr => ⟨rv, hr.1.xs hx (by simp; omega), Ge.xs hr.2 hx (by simp)⟩, h.at_.xs hx (by simp; omega), h.why.xs hx (by simp; omega), h.len⟩
end Go.Proofs.YtmioaeaobefphaaDoor
