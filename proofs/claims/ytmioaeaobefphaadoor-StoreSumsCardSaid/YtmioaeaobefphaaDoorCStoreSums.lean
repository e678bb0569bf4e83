/- Proved: the statement StoreSums. -/
import Derived.Test.YtmioaeaobefphaaDoorBae
import Derived.Test.YtmioaeaobefphaaDoorBar
import Derived.Test.YtmioaeaobefphaaDoorBaq
import Derived.Laws.EntriesVeiled
import Derived.Deep.AppendSrc
import Derived.Lib.AppendZeros
import Derived.Laws.IdiomStrings
import Derived.Laws.StructEq

namespace Go.Proofs.YtmioaeaobefphaaDoor.Pl
open Go Go.RowKit
set_option linter.unusedVariables false
set_option linter.unusedSimpArgs false

section
variable {P : Program} {ok : Value → Prop} {w w' : World} {base : Nat} {e : TypeId} {size : Nat} {v : Value} {n : Nat} {xs : List Value}
/-- More is appended, whatever it comes of. -/
theorem gr_src2 (t tx ty : TypeId) (i : TypeInfo) (z : Value) (bytes : Nat) (ht : P.underlying t = some (.slice e)) (hi : P.info? e = some i) (hz : i.zero = some z) (hsize : i.size = size) (hby : i.bytes = bytes) (hzs : z.cells.size = size)
    (hok0 : ∀ c ∈ z.cells.toList, ok c) (h : Gr ok w base e size v n xs) (x : Value) (m : Nat) (news : List Value) (hs : Src P size tx x m news w) (hokn : ∀ u ∈ news, ok u)
    (h63 : n + m ≤ maxLen) (hbytes : (n + m) * bytes ≤ 140737488355328) (hbase : base ≤ w.heap.size) :
    ∃ v' w', (Builtin.append_ #[t, tx] ty #[v, x]).run P w = .ok v' w' ∧ Gr ok w' base e size v' (n + m) (xs ++ news) ∧ w.grownBy w' v.ownBlock ∧ (∀ g, v'.ownBlock = some g → v.ownBlock = some g ∨ w.heap.size ≤ g) := by
  subst hsize
  subst hby
  have hsmall : n + m ≤ 9223372036854775807 := by simp only [maxLen] at h63; omega
  have hlen : (xs ++ news).length = (n + m) * i.size := by rw [List.length_append, h.1, hs.newsLen, Nat.add_mul]
  have hzc : ∀ k, ∀ c ∈ (Builtin.zeroCells z.cells k).toList, ok c := by
    intro k c hc
    have h2 := Array.mem_toList_iff.1 hc
    unfold Builtin.zeroCells at h2
    obtain ⟨j, hj, rfl⟩ := Array.mem_iff_getElem.1 h2
    simp only [Array.size_map, Array.size_range] at hj
    simp only [Array.getElem_map, Array.getElem_range]
    have hpos : 0 < z.cells.size := by
      rcases Nat.eq_zero_or_pos z.cells.size with h0 | h0
      · rw [h0, Nat.mul_zero] at hj; omega
      · exact h0
    have hlt : j % z.cells.size < z.cells.size := Nat.mod_lt _ hpos
    rw [getElem!_pos z.cells _ hlt]
    exact hok0 _ (Array.mem_toList_iff.2 (Array.getElem_mem hlt))
  have grown : ∀ (old : Nat), (∀ c ∈ xs, ok c) → ∀ (row : Option Nat),
      Gr ok (w.drew.alloc (.cells ((xs ++ news).toArray ++ Builtin.zeroCells z.cells (grownCap w (n + m) old e - (n + m))) e)) base e i.size (.slice (some ⟨w.heap.size, 0, none⟩) (n + m) (grownCap w (n + m) old e)) (n + m) (xs ++ news) ∧
      w.grownBy (w.drew.alloc (.cells ((xs ++ news).toArray ++ Builtin.zeroCells z.cells (grownCap w (n + m) old e - (n + m))) e)) row := by
    intro old hx row
    have hge := grownCap_ge w (n + m) old e
    refine ⟨⟨hlen, .inr ⟨w.heap.size, _, _, rfl, hbase, _root_.Go.heap_alloc_new w.drew _, hge, grownCap_le_maxLen w (n + m) old e h63, ?_, ?_, ?_⟩⟩, ⟨rfl, rfl, rfl, by simp, fun k hk _ => Go.RowKit.Below.heap_alloc w.drew _ k hk⟩⟩
    · rw [Array.size_append, List.size_toArray, size_zeroCells, hzs, hlen, ← Nat.add_mul]
      congr 1
      omega
    · simp only [Array.toList_append]
      rw [← hlen]
      exact List.take_left
    · intro c hc
      simp only [Array.toList_append, List.mem_append] at hc
      rcases hc with (hc | hc) | hc
      · exact hx c hc
      · exact hokn c hc
      · exact hzc _ c hc
  rcases h.2 with ⟨rfl, rfl⟩ | ⟨g, cap, cur, rfl, hbg, hg, hnc, hcm, hcs, htake, hok⟩
  · have hx : xs = [] := List.eq_nil_of_length_eq_zero (by simpa using h.1)
    subst hx
    rcases Nat.eq_zero_or_pos m with h0 | h0
    · subst h0
      have hn0 : news = [] := List.eq_nil_of_length_eq_zero (by rw [hs.newsLen, Nat.zero_mul])
      subst hn0
      have hr : (Builtin.append_ #[t, tx] ty #[.slice none 0 0, x]).run P w = .ok (.slice none 0 0) w := by
        rcases hs.kind with ⟨e', hk⟩ | hk <;> simp [Builtin.append_, run_underlying ht, run_underlying hk, sizeOf, typeInfo, hi, hs.len, hs.cells]
      exact ⟨_, _, hr, Gr.nil, World.grownBy.refl w _, fun g h => .inl h⟩
    · have hr := run_append_grow_src (P := P) w t tx ty e i z ht hi hz none 0 0 [] (by simp [Builtin.firstCells]) x m news hs (by omega) (by omega) (by rw [Nat.zero_add, nextslicecap_zero h0]; have hb := hbytes; rw [Nat.zero_add] at hb; omega)
      have hgr := grown 0 (fun _ h => by cases h) (Value.ownBlock (.slice none 0 0))
      exact ⟨_, _, hr, hgr.1, hgr.2, fun g h => .inr (by simp [Value.ownBlock] at h; omega)⟩
  · have hxs : ∀ c ∈ xs, ok c := fun c hc => hok c (List.mem_of_mem_take (htake ▸ hc))
    by_cases hroom : n + m ≤ cap
    · have hfit : n * i.size + news.length ≤ cur.size := by rw [hs.newsLen, hcs, ← Nat.add_mul]; exact Nat.mul_le_mul_right _ hroom
      have hst := run_storeCells_at P g (n * i.size) e news 0 cur w hg (by simpa using hfit) hs.one
      simp only [Nat.add_zero] at hst
      have hr : (Builtin.append_ #[t, tx] ty #[.slice (some ⟨g, 0, none⟩) n cap, x]).run P w = .ok (.slice (some ⟨g, 0, none⟩) (n + m) cap) (w.setRow g (cur.toList.take (n * i.size) ++ news ++ cur.toList.drop (n * i.size + news.length)).toArray) := by
        rcases hs.kind with ⟨e', hk⟩ | hk <;> simp [Builtin.append_, run_underlying ht, run_underlying hk, sizeOf, typeInfo, hi, hs.len, hroom, hs.cells, Addr.add_lit, hst]
      refine ⟨_, _, hr, ⟨hlen, .inr ⟨g, cap, _, rfl, hbg, setRow_heap w g cur _ e _ hg, hroom, hcm, ?_, ?_, ?_⟩⟩, ⟨rfl, rfl, rfl, by simp, fun k _ hk => setRow_other w g k _ (fun e => hk (by simp [Value.ownBlock, e]))⟩, fun g h => .inl h⟩
      · simp only [List.size_toArray, List.length_append, List.length_take, List.length_drop, Array.length_toList]
        omega
      · rw [htake, ← hlen]
        exact List.take_left
      · intro c hc
        simp only [List.mem_append] at hc
        rcases hc with (hc | hc) | hc
        · exact hok c (List.mem_of_mem_take hc)
        · exact hokn c hc
        · exact hok c (List.mem_of_mem_drop hc)
    · have holds : ∀ j u, xs[j]? = some u → w.drew.cell? ((⟨g, 0, none⟩ : Addr).add j) = some u := by simpa using h.own.cells (g := g) rfl
      have hr := run_append_grow_src (P := P) w t tx ty e i z ht hi hz (some ⟨g, 0, none⟩) n cap xs (run_firstCells_some w.drew i.size n ⟨g, 0, none⟩ n cap xs h.1 holds) x m news hs (by omega) (by omega) (growslice_fits (by omega) hbytes)
      have hgr := grown cap hxs (Value.ownBlock (.slice (some ⟨g, 0, none⟩) n cap))
      exact ⟨_, _, hr, hgr.1, hgr.2, fun g h => .inr (by simp [Value.ownBlock] at h; omega)⟩
end
section
variable {P : Program} {L : List Oper} {S : World → Prop} {K : List (Nat × Value) → World → Prop} {k : Bool} {i m d : Nat} {o : Oper} {x y : Operand} {r : List (Bool × Nat × Nat)} {l : List (Nat × Value)} {w w' : World} {v : Value}
/-- A row grows by what is appended. -/
theorem qA_gr2 {t tx e : TypeId} {ok : Value → Prop} {base size n m' bytes : Nat} {v u z : Value} {xs news : List Value} (hG : Gr ok w base e size v n xs) (hs : Src P size tx u m' news w) (hu : P.underlying t = some (.slice e)) (hinf : (P.info? e).map (fun i => (i.zero, i.size, i.bytes)) = some (some z, size, bytes)) (hzs : z.cells.size = size)
    (hok0 : ∀ c ∈ z.cells.toList, ok c) (hokn : ∀ c ∈ news, ok c) (h63 : n + m' ≤ 1000000000) (hby : bytes ≤ 1000) (hbase : base ≤ w.heap.size)
    (ho : nth L i = some o) (hop : o.op = .call { callee := .builtin .append, args := #[x, y], argTypes := #[t, tx] }) (hd : o.dst = some d) (hg : gd L l o.guard = some true) (hx : opv l x = some v) (hy : opv l y = some u) (hS : ∀ Y, w.grownBy Y v.ownBlock → S Y)
    (h : ∀ v' w', Gr ok w' base e size v' (n + m') (xs ++ news) → w.grownBy w' v.ownBlock → (∀ g, v'.ownBlock = some g → v.ownBlock = some g ∨ w.heap.size ≤ g) → wpA P L S K r ((d, v') :: l) w') : wpA P L S K ((false, i, m) :: r) l w := by
  obtain ⟨inf, hi, hz⟩ := Option.map_eq_some_iff.1 hinf
  simp only [Prod.mk.injEq] at hz
  obtain ⟨hz1, hz2, hz3⟩ := hz
  have hb : (n + m') * bytes ≤ 1000000000 * 1000 := Nat.mul_le_mul h63 hby
  obtain ⟨v', w2, hr, hG2, hg2, hg3⟩ := gr_src2 (P := P) t tx o.type inf z bytes hu hi hz1 hz2 hz3 hzs hok0 hG u m' news hs hokn (by unfold maxLen; omega) (by omega) hbase
  exact pA_val ho hd hg (fun ρ hρ => by
    obtain ⟨d', op', t', ps', af', gu'⟩ := o
    cases hop
    have e1 := hρ.opv hx
    have e2 := hρ.opv hy
    exact run_valW (Builtin.append_ _ _ (#[x, y].map ρ)) (by rw [show #[x, y].map ρ = #[v, u] from by simp [e1, e2]]; exact hr)) (hS _ hg2) (h _ _ hG2 hg2 hg3)
end
end Go.Proofs.YtmioaeaobefphaaDoor.Pl
/- StoreCut, walked. -/
namespace Go.Proofs.YtmioaeaobefphaaDoor
open Go.RowKit 
set_option linter.unusedVariables false
set_option linter.unusedSimpArgs false
set_option maxRecDepth 100000
set_option maxHeartbeats 4000000
theorem inBlock_other {id id2 : Nat} (h : id ≠ id2) {Q : Exit → Act → World → Prop} {a : Act} {w : World} (hq : Q (.exit id) a w) : Exit.inBlock id2 Q (.exit id) a w := by
  show (if id = id2 then Q .normal a w else Q (.exit id) a w)
  rw [if_neg h]; exact hq
theorem inBlock_same {id : Nat} {Q : Exit → Act → World → Prop} {a : Act} {w : World} (hq : Q .normal a w) : Exit.inBlock id Q (.exit id) a w := by
  show (if id = id then Q .normal a w else Q (.exit id) a w)
  rw [if_pos rfl]; exact hq
theorem Pl.V_exitOut {P : Program} {Q : Exit → Act → World → Prop} {n : Nat} {ds : List Deferred} {cs cs1 cs2 cs' : List Code} {l : List (Nat × Value)} {w : World} {N : Act → World → Prop} (h : Pl.V P Q n ds cs l w) :
    Pl.V P (Exit.inBlock 1 (Pl.Ks P (Exit.then N (Pl.Ks P (Exit.inBlock 0 (Pl.Ks P Q cs)) cs1)) cs2)) n ds (.exit 0 :: cs') l w := fun a ha => wp_exit (by
  refine Pl.Ks_exit (inBlock_other (by decide) (Pl.Ks_exit ?_))
  show Pl.Ks P (Exit.inBlock 0 (Pl.Ks P Q cs)) cs1 (.exit 0) a w
  exact Pl.Ks_exit (inBlock_same (h a ha)))
theorem tm_nat (a b : Nat) : ((a : Int)).tmod (b : Int) = ((a % b : Nat) : Int) := rfl
theorem T.recs_mono (l : List T.Ent) {i j : Nat} (h : i ≤ j) : (T.recs (l.take i)).length ≤ (T.recs (l.take j)).length := by
  have := recs_take_le (l.take j) i
  rwa [List.take_take, Nat.min_eq_left h] at this
theorem Es.head {w : World} {lo n c k : Nat} {A : Option Addr} {l : List T.Ent} (h : Es w lo (.slice A n c) l) (h1 : k ≤ l.length) : Es w lo (.slice A k c) (l.take k) := by
  have e0 : n = l.length := by obtain ⟨_, _, e, _⟩ := id h; cases e; rfl
  subst e0
  have := Pl.Sl.cut (s := 2) h (by rw [cE_len]) (Nat.zero_le k) h1
  rw [cutA_zero] at this
  unfold Es
  rw [List.length_take, Nat.min_eq_left h1]
  have e : cE (l.take k) = ((cE l).drop (0 * 2)).take ((k - 0) * 2) := by
    rw [Nat.zero_mul, List.drop_zero, Nat.sub_zero]
    have h2 : cE l = cE (l.take k) ++ cE (l.drop k) := by rw [← cE_append, List.take_append_drop]
    rw [h2, List.take_left' (by rw [cE_len, List.length_take, Nat.min_eq_left h1])]
  rw [e]; simpa using this
theorem r_eqlb {a b : Bool} (c : Bool) (h : (a == b) = c) {x y : Operand} (X : World) : Pl.Bn Tryd.prog .eql 4 x y (.bool a) (.bool b) X = .ok (.bool c) X := by
  subst h; unfold Pl.Bn; cases a <;> cases b <;> go_simp
theorem written_len (w : World) {v : Value} {lo : Nat} {l : List T.Ent} (hl : Es w lo v l) (hm : ∀ e ∈ l, T.May e) (hg : Gl w) (hb : (T.recs l).length ≤ 10000000) :
    Calls Tryd.prog 22 #[v] w fun e w' => ∃ A c, e = .returned (.tuple #[.slice A (T.recs l).length c, .bool true]) ∧ Pl.Ex w w' :=
  (written_calls w hl hm hg hb).mono fun e w' ⟨v', h1, h2, h3⟩ => by
    obtain ⟨A, c, rfl, _⟩ := Pl.Gr.shp h2
    exact ⟨A, c, h1, h3⟩
theorem StoreCut_walk (w : World) {v : Value} {lo : Nat} {l : List T.Ent} (hl : Es w lo v l) (p : Nat) (hp : p < 65536) (hg : Gl w) :
    Calls Tryd.prog 5 #[v, .int .u16 ((p : Nat) : Int)] w fun e w' => e = .returned (.bool true) ∧ Pl.Ex w w' := by
  obtain ⟨Al, cl, rfl, hnl0, hcl⟩ := hl.sh
  refine Pl.calls_by (n := 105) (vs := [.slice Al l.length cl, .int .u16 ((p : Nat) : Int)]) Tryd.func5 rfl (by kernel_rfl) (by simp) ?_
  repeat refine Pl.V_seq ?_
  refine Pl.V_region (by kernel_rfl) ?_
  refine Pl.qA_go trivial rfl ?_
  refine Pl.pA_end ?_
  repeat refine Pl.V_seq ?_
  refine Pl.V_region (by kernel_rfl) ?_
  refine Pl.pA_call rfl rfl rfl rfl rfl (fun u X => Pl.enters Tryd.func11 (by kernel_rfl) rfl u X) ?_
  refine Calls.mono (head_calls _ (hg.ex (Pl.Ex.refl _))) ?_
  rintro e w1 ⟨rfl, hE1⟩
  have sz1 := Pl.Ex.size hE1
  refine ⟨_, rfl, trivial, ?_⟩
  refine Pl.qA_go trivial rfl ?_
  refine Pl.pA_end ?_
  repeat refine Pl.V_seq ?_
  refine Pl.V_region (by kernel_rfl) ?_
  refine Pl.qA_go trivial rfl ?_
  refine Pl.pA_call rfl rfl rfl rfl rfl (fun u X => Pl.enters Tryd.func21 (by kernel_rfl) rfl u X) ?_
  refine Calls.mono (made_calls _ (Es.ex hl hE1) 12 (by omega)) ?_
  rintro e w2 ⟨vm, rfl, hM, hE2⟩
  have hmay := T.made_may l 12
  have hmr := T.made_recs l 12
  have hml := T.made_len l 12
  generalize T.made l 12 = M at *
  obtain ⟨Am, cm, rfl, hnm, hcm⟩ := Es.sh hM
  have sz2 := Pl.Ex.size hE2
  refine ⟨_, rfl, trivial, ?_⟩
  refine Pl.qA_go trivial rfl ?_
  refine Pl.pA_end ?_
  repeat refine Pl.V_seq ?_
  refine Pl.V_region (by kernel_rfl) ?_
  refine Pl.qA_go trivial rfl ?_
  refine Pl.pA_call rfl rfl rfl rfl rfl (fun u X => Pl.enters Tryd.func22 (by kernel_rfl) rfl u X) ?_
  refine Calls.mono (written_calls _ (Es.ex hM (Pl.Ex.refl _)) hmay (hg.ex (Pl.Ex.trans hE1 hE2)) (by omega)) ?_
  rintro e w3 ⟨vl, rfl, hG, hE3⟩
  obtain ⟨A5, c5, rfl, hc5⟩ := Pl.Gr.shp hG
  have hL := Gy.by hG (by omega)
  have sz3 := Pl.Ex.size hE3
  refine ⟨_, rfl, trivial, ?_⟩
  refine Pl.qA_go trivial rfl ?_
  refine Pl.pA_end ?_
  repeat refine Pl.V_seq ?_
  refine Pl.V_region (by kernel_rfl) ?_
  refine Pl.qA_go trivial rfl ?_
  refine Pl.qA_cv (c := ((p : Nat) : Int)) Tryd.underlying3 (by kernel_rfl) (Pl.c_id (a := p) rfl (Pl.w64 (by omega) (by omega))) trivial rfl rfl rfl rfl rfl ?_
  refine Pl.qA_go trivial rfl ?_
  refine Pl.qA_ln Tryd.underlying22 trivial rfl rfl rfl rfl rfl ?_
  refine Pl.qA_b (v := .int .i64 ((((T.recs M).length + 1) : Nat) : Int)) (fun X => Pl.r_add (Pl.a64 (a := (T.recs M).length) (b := 1) rfl rfl (by omega)) X) trivial rfl rfl rfl rfl rfl rfl ?_
  refine Pl.qA_b (v := .int .i64 (((p % ((T.recs M).length + 1)) : Nat) : Int)) (fun X => Pl.r_rem (by omega) (tm_nat p ((T.recs M).length + 1)) X) trivial rfl rfl rfl rfl rfl rfl ?_
  refine Pl.qA_go trivial rfl ?_
  refine Pl.pA_end ?_
  have hkl : (p % ((T.recs M).length + 1)) < (T.recs M).length + 1 := Nat.mod_lt _ (by omega)
  generalize (p % ((T.recs M).length + 1)) = k at *
  obtain ⟨mm, hm1, hm2, hm3, hrd⟩ := T.rd_take M k hmay (by omega)
  repeat refine Pl.V_seq ?_
  refine Pl.V_region (by kernel_rfl) ?_
  refine Pl.qA_go trivial rfl ?_
  refine Pl.qA_sl (kl := .i64) (kh := .i64) (lo' := 0) (hi' := k) (s := 1) Tryd.underlying22 (by kernel_rfl) (.inl ⟨rfl, rfl⟩) (.inr ⟨_, _, rfl, rfl, rfl⟩) (by omega) (by omega) trivial rfl rfl rfl rfl rfl ?_
  rw [cutA_zero]
  refine Pl.pA_call rfl rfl rfl rfl rfl (fun u X => Pl.enters Tryd.func14 (by kernel_rfl) rfl u X) ?_
  refine Calls.mono (read_calls _ (By.head (k := k) (By.ex hL (Pl.Ex.refl _)) (by omega)) (hg.ex (Pl.Ex.trans hE1 (Pl.Ex.trans hE2 hE3))) (by rw [List.length_take]; omega)) ?_
  rintro e w4 ⟨rv, rfl, hR, hE4⟩
  rw [hrd] at hR ⊢
  have sz4 := Pl.Ex.size hE4
  refine ⟨_, rfl, trivial, ?_⟩
  refine Pl.qA_go trivial rfl ?_
  refine Pl.pA_end ?_
  repeat refine Pl.V_seq ?_
  refine Pl.V_region (by kernel_rfl) ?_
  refine Pl.qA_go trivial rfl ?_
  refine Pl.pA_end ?_
  repeat refine Pl.V_seq ?_
  refine Pl.V_block ?_
  repeat refine Pl.V_seq ?_
  refine Pl.V_sub [(5, .bool true), (6, .slice Am M.length cm), (8, .bool true), (9, .int .i64 ((k : Nat) : Int)), (10, rv), (11, .int .i64 (((T.recs (M.take mm)).length : Nat) : Int)), (12, .int .i64 (((if k = (T.recs (M.take mm)).length then 0 else 301) : Nat) : Int)), (13, .int .i64 0)] (Pl.subl_cons rfl (Pl.subl_cons rfl (Pl.subl_cons rfl (Pl.subl_cons rfl (Pl.subl_cons rfl (Pl.subl_cons rfl (Pl.subl_cons rfl (Pl.subl_cons rfl Pl.subl_nil)))))))) ?_
  have hMb := Es.ex hM (Pl.Ex.trans hE3 hE4)
  have hRb := Es.ex hR (Pl.Ex.refl _)
  have hgb := hg.ex (Pl.Ex.trans hE1 (Pl.Ex.trans hE2 (Pl.Ex.trans hE3 hE4)))
  have hXb := (Pl.Ex.trans hE1 (Pl.Ex.trans hE2 (Pl.Ex.trans hE3 hE4)))
  refine Pl.V_loop (fun kk l' w' => ∃ q, q + kk = M.length ∧ q ≤ mm ∧ Pl.Ex w4 w' ∧ l' = [(5, .bool true), (6, .slice Am M.length cm), (8, .bool true), (9, .int .i64 ((k : Nat) : Int)), (10, rv), (11, .int .i64 (((T.recs (M.take mm)).length : Nat) : Int)), (12, .int .i64 (((if k = (T.recs (M.take mm)).length then 0 else 301) : Nat) : Int)), (13, .int .i64 ((q : Nat) : Int))]) M.length ⟨0, by omega, by omega, Pl.Ex.refl _, rfl⟩ ?_
  rintro kk _ Z ⟨q, hq, hqm, hZ, rfl⟩
  by_cases hlt : q < M.length
  · repeat refine Pl.V_seq ?_
    refine Pl.V_region (by kernel_rfl) ?_
    refine Pl.qA_go trivial rfl ?_
    refine Pl.qA_ln Tryd.underlying29 trivial rfl rfl rfl rfl rfl ?_
    refine Pl.qA_b (v := .bool true) (fun X => Pl.r_lss (decide_eq_true (by omega)) X) trivial rfl rfl rfl rfl rfl rfl ?_
    refine Pl.pA_end ?_
    repeat refine Pl.V_seq ?_
    refine Pl.V_true rfl ?_
    repeat refine Pl.V_seq ?_
    refine Pl.V_skip ?_
    repeat refine Pl.V_seq ?_
    refine Pl.V_block ?_
    repeat refine Pl.V_seq ?_
    refine Pl.V_region (by kernel_rfl) ?_
    refine Pl.qA_go trivial rfl ?_
    refine Pl.qA_b (v := .int .i64 (((q + 1) : Nat) : Int)) (fun X => Pl.r_add (Pl.a64 (a := q) (b := 1) rfl rfl (by omega)) X) trivial rfl rfl rfl rfl rfl rfl ?_
    refine Pl.qA_sl (kl := .i64) (kh := .i64) (lo' := 0) (hi' := ((q + 1))) (s := 2) Tryd.underlying29 (by kernel_rfl) (.inl ⟨rfl, rfl⟩) (.inr ⟨_, _, rfl, rfl, rfl⟩) (by omega) (by omega) trivial rfl rfl rfl rfl rfl ?_
    rw [cutA_zero]
    refine Pl.pA_call rfl rfl rfl rfl rfl (fun u X => Pl.enters Tryd.func22 (by kernel_rfl) rfl u X) ?_
    refine Calls.mono (written_len _ (Es.head (Es.ex (Es.ex hMb hZ) (Pl.Ex.refl _)) (by omega)) (fun e he => hmay e (List.mem_of_mem_take he)) (hgb.ex (Pl.Ex.trans hZ (Pl.Ex.refl _))) (by have := recs_take_le M (q + 1); omega)) ?_
    rintro e w1 ⟨Ap, cp, rfl, hE1⟩
    have sz1 := Pl.Ex.size hE1
    refine ⟨_, rfl, trivial, ?_⟩
    refine Pl.qA_go trivial rfl ?_
    refine Pl.pA_end ?_
    by_cases hgt : (T.recs (M.take (q + 1))).length > k
    · repeat refine Pl.V_seq ?_
      refine Pl.V_region (by kernel_rfl) ?_
      refine Pl.qA_go trivial rfl ?_
      refine Pl.qA_un (v := .bool false) trivial rfl rfl rfl rfl rfl (fun X => rfl) ?_
      refine Pl.qA_go trivial rfl ?_
      refine Pl.qA_ln Tryd.underlying22 trivial rfl rfl rfl rfl rfl ?_
      refine Pl.qA_go trivial rfl ?_
      refine Pl.qA_b (v := .bool true) (fun X => Pl.r_gtr (decide_eq_true (by omega)) X) trivial rfl rfl rfl rfl rfl rfl ?_
      refine Pl.qA_go trivial rfl ?_
      refine Pl.pA_end ?_
      repeat refine Pl.V_seq ?_
      refine Pl.V_true rfl ?_
      repeat refine Pl.V_seq ?_
      refine Pl.V_exitOut ?_
      have hle : mm ≤ q := by
        apply Nat.le_of_not_lt
        intro hlt2
        have := T.recs_mono M (show q + 1 ≤ mm by omega)
        omega
      obtain rfl : q = mm := by omega
      repeat refine Pl.V_seq ?_
      refine Pl.V_region (by kernel_rfl) ?_
      refine Pl.qA_go trivial rfl ?_
      refine Pl.qA_sl (kl := .i64) (kh := .i64) (lo' := 0) (hi' := q) (s := 2) Tryd.underlying29 (by kernel_rfl) (.inl ⟨rfl, rfl⟩) (.inr ⟨_, _, rfl, rfl, rfl⟩) (by omega) (by omega) trivial rfl rfl rfl rfl rfl ?_
      rw [cutA_zero]
      refine Pl.pA_call rfl rfl rfl rfl rfl (fun u X => Pl.enters Tryd.func22 (by kernel_rfl) rfl u X) ?_
      refine Calls.mono (written_len _ (Es.head (Es.ex (Es.ex hMb hZ) hE1) (by omega)) (fun e he => hmay e (List.mem_of_mem_take he)) (hgb.ex (Pl.Ex.trans hZ hE1)) (by have := recs_take_le M q; omega)) ?_
      rintro e w2 ⟨Ae, ce, rfl, hE2⟩
      have sz2 := Pl.Ex.size hE2
      refine ⟨_, rfl, trivial, ?_⟩
      refine Pl.qA_go trivial rfl ?_
      refine Pl.pA_end ?_
      by_cases hke : k = (T.recs (M.take q)).length
      · rw [if_pos hke]
        repeat refine Pl.V_seq ?_
        refine Pl.V_region (by kernel_rfl) ?_
        refine Pl.qA_go trivial rfl ?_
        refine Pl.qA_sl (kl := .i64) (kh := .i64) (lo' := 0) (hi' := q) (s := 2) Tryd.underlying29 (by kernel_rfl) (.inl ⟨rfl, rfl⟩) (.inr ⟨_, _, rfl, rfl, rfl⟩) (by omega) (by omega) trivial rfl rfl rfl rfl rfl ?_
        rw [cutA_zero]
        refine Pl.pA_call rfl rfl rfl rfl rfl (fun u X => Pl.enters Tryd.func16 (by kernel_rfl) rfl u X) ?_
        refine Calls.mono (same_eq _ (Es.ex (Es.ex hRb hZ) (Pl.Ex.trans hE1 hE2)) (Es.head (Es.ex (Es.ex hMb hZ) (Pl.Ex.trans hE1 hE2)) (by omega)) rfl) ?_
        rintro e w3 ⟨rfl, hE3⟩
        have sz3 := Pl.Ex.size hE3
        refine ⟨_, rfl, trivial, ?_⟩
        refine Pl.qA_go trivial rfl ?_
        refine Pl.qA_ln Tryd.underlying22 trivial rfl rfl rfl rfl rfl ?_
        refine Pl.qA_b (v := .bool true) (fun X => Pl.r_eql (Pl.e_t rfl) X) trivial rfl rfl rfl rfl rfl rfl ?_
        refine Pl.qA_go trivial rfl ?_
        refine Pl.qA_b (v := .bool true) (fun X => Pl.r_eql (Pl.e_t (by omega)) X) trivial rfl rfl rfl rfl rfl rfl ?_
        refine Pl.qA_go trivial rfl ?_
        refine Pl.qA_b (v := .bool true) (fun X => Pl.r_eql (Pl.e_t (by omega)) X) trivial rfl rfl rfl rfl rfl rfl ?_
        refine Pl.qA_b (v := .bool true) (fun X => r_eqlb true rfl X) trivial rfl rfl rfl rfl rfl rfl ?_
        refine Pl.qA_go trivial rfl ?_
        refine Pl.qA_b (v := .bool true) (fun X => Pl.r_eql (Pl.e_t (by omega)) X) trivial rfl rfl rfl rfl rfl rfl ?_
        refine Pl.qA_go trivial rfl ?_
        refine Pl.pA_end ?_
        repeat refine Pl.V_seq ?_
        exact Pl.post_ret rfl rfl ⟨rfl, Pl.Ex.trans hXb (Pl.Ex.trans hZ (Pl.Ex.trans hE1 (Pl.Ex.trans hE2 hE3)))⟩
      · rw [if_neg hke]
        repeat refine Pl.V_seq ?_
        refine Pl.V_region (by kernel_rfl) ?_
        refine Pl.qA_go trivial rfl ?_
        refine Pl.qA_sl (kl := .i64) (kh := .i64) (lo' := 0) (hi' := q) (s := 2) Tryd.underlying29 (by kernel_rfl) (.inl ⟨rfl, rfl⟩) (.inr ⟨_, _, rfl, rfl, rfl⟩) (by omega) (by omega) trivial rfl rfl rfl rfl rfl ?_
        rw [cutA_zero]
        refine Pl.pA_call rfl rfl rfl rfl rfl (fun u X => Pl.enters Tryd.func16 (by kernel_rfl) rfl u X) ?_
        refine Calls.mono (same_eq _ (Es.ex (Es.ex hRb hZ) (Pl.Ex.trans hE1 hE2)) (Es.head (Es.ex (Es.ex hMb hZ) (Pl.Ex.trans hE1 hE2)) (by omega)) rfl) ?_
        rintro e w3 ⟨rfl, hE3⟩
        have sz3 := Pl.Ex.size hE3
        refine ⟨_, rfl, trivial, ?_⟩
        refine Pl.qA_go trivial rfl ?_
        refine Pl.qA_ln Tryd.underlying22 trivial rfl rfl rfl rfl rfl ?_
        refine Pl.qA_b (v := .bool true) (fun X => Pl.r_eql (Pl.e_t rfl) X) trivial rfl rfl rfl rfl rfl rfl ?_
        refine Pl.qA_go trivial rfl ?_
        refine Pl.qA_b (v := .bool false) (fun X => Pl.r_eql (Pl.e_f (by omega)) X) trivial rfl rfl rfl rfl rfl rfl ?_
        refine Pl.qA_go trivial rfl ?_
        refine Pl.qA_b (v := .bool false) (fun X => Pl.r_eql (Pl.e_f (by omega)) X) trivial rfl rfl rfl rfl rfl rfl ?_
        refine Pl.qA_b (v := .bool true) (fun X => r_eqlb true rfl X) trivial rfl rfl rfl rfl rfl rfl ?_
        refine Pl.qA_go trivial rfl ?_
        refine Pl.qA_b (v := .bool false) (fun X => Pl.r_eql (Pl.e_f (by omega)) X) trivial rfl rfl rfl rfl rfl rfl ?_
        refine Pl.qA_go trivial rfl ?_
        refine Pl.qA_b (v := .bool true) (fun X => Pl.r_eql (Pl.e_t (by omega)) X) trivial rfl rfl rfl rfl rfl rfl ?_
        refine Pl.qA_go trivial rfl ?_
        refine Pl.pA_end ?_
        repeat refine Pl.V_seq ?_
        exact Pl.post_ret rfl rfl ⟨rfl, Pl.Ex.trans hXb (Pl.Ex.trans hZ (Pl.Ex.trans hE1 (Pl.Ex.trans hE2 hE3)))⟩
    · repeat refine Pl.V_seq ?_
      refine Pl.V_region (by kernel_rfl) ?_
      refine Pl.qA_go trivial rfl ?_
      refine Pl.qA_un (v := .bool false) trivial rfl rfl rfl rfl rfl (fun X => rfl) ?_
      refine Pl.qA_go trivial rfl ?_
      refine Pl.qA_ln Tryd.underlying22 trivial rfl rfl rfl rfl rfl ?_
      refine Pl.qA_go trivial rfl ?_
      refine Pl.qA_b (v := .bool false) (fun X => Pl.r_gtr (decide_eq_false (by omega)) X) trivial rfl rfl rfl rfl rfl rfl ?_
      refine Pl.qA_go trivial rfl ?_
      refine Pl.pA_end ?_
      repeat refine Pl.V_seq ?_
      refine Pl.V_false rfl ?_
      repeat refine Pl.V_seq ?_
      refine Pl.V_skip ?_
      have hlt2 : q < mm := by
        apply Nat.lt_of_le_of_ne hqm
        intro e
        subst e
        have := hm3 hlt
        omega
      repeat refine Pl.V_seq ?_
      refine Pl.V_region (by kernel_rfl) ?_
      refine Pl.qA_go trivial rfl ?_
      refine Pl.qA_b (v := .int .i64 (((q + 1) : Nat) : Int)) (fun X => Pl.r_add (Pl.a64 (a := q) (b := 1) rfl rfl (by omega)) X) trivial rfl rfl rfl rfl rfl rfl ?_
      refine Pl.qA_go trivial rfl ?_
      refine Pl.pA_end ?_
      repeat refine Pl.V_seq ?_
      refine Pl.V_endblock ?_
      refine Pl.V_again [(5, .bool true), (6, .slice Am M.length cm), (8, .bool true), (9, .int .i64 ((k : Nat) : Int)), (10, rv), (11, .int .i64 (((T.recs (M.take mm)).length : Nat) : Int)), (12, .int .i64 (((if k = (T.recs (M.take mm)).length then 0 else 301) : Nat) : Int)), (13, .int .i64 (((q + 1) : Nat) : Int))] (Pl.subl_cons rfl (Pl.subl_cons rfl (Pl.subl_cons rfl (Pl.subl_cons rfl (Pl.subl_cons rfl (Pl.subl_cons rfl (Pl.subl_cons rfl (Pl.subl_cons rfl Pl.subl_nil)))))))) (k' := kk - 1) (by omega) ⟨q + 1, by omega, by omega, Pl.Ex.trans hZ hE1, rfl⟩
  · repeat refine Pl.V_seq ?_
    refine Pl.V_region (by kernel_rfl) ?_
    refine Pl.qA_go trivial rfl ?_
    refine Pl.qA_ln Tryd.underlying29 trivial rfl rfl rfl rfl rfl ?_
    refine Pl.qA_b (v := .bool false) (fun X => Pl.r_lss (decide_eq_false (by omega)) X) trivial rfl rfl rfl rfl rfl rfl ?_
    refine Pl.pA_end ?_
    repeat refine Pl.V_seq ?_
    refine Pl.V_false rfl ?_
    repeat refine Pl.V_seq ?_
    refine Pl.V_exit ?_
    obtain rfl : q = mm := by omega
    repeat refine Pl.V_seq ?_
    refine Pl.V_region (by kernel_rfl) ?_
    refine Pl.qA_go trivial rfl ?_
    refine Pl.qA_sl (kl := .i64) (kh := .i64) (lo' := 0) (hi' := q) (s := 2) Tryd.underlying29 (by kernel_rfl) (.inl ⟨rfl, rfl⟩) (.inr ⟨_, _, rfl, rfl, rfl⟩) (by omega) (by omega) trivial rfl rfl rfl rfl rfl ?_
    rw [cutA_zero]
    refine Pl.pA_call rfl rfl rfl rfl rfl (fun u X => Pl.enters Tryd.func22 (by kernel_rfl) rfl u X) ?_
    refine Calls.mono (written_len _ (Es.head (Es.ex (Es.ex hMb hZ) (Pl.Ex.refl _)) (by omega)) (fun e he => hmay e (List.mem_of_mem_take he)) (hgb.ex (Pl.Ex.trans hZ (Pl.Ex.refl _))) (by have := recs_take_le M q; omega)) ?_
    rintro e w1 ⟨Ae, ce, rfl, hE1⟩
    have sz1 := Pl.Ex.size hE1
    refine ⟨_, rfl, trivial, ?_⟩
    refine Pl.qA_go trivial rfl ?_
    refine Pl.pA_end ?_
    by_cases hke : k = (T.recs (M.take q)).length
    · rw [if_pos hke]
      repeat refine Pl.V_seq ?_
      refine Pl.V_region (by kernel_rfl) ?_
      refine Pl.qA_go trivial rfl ?_
      refine Pl.qA_sl (kl := .i64) (kh := .i64) (lo' := 0) (hi' := q) (s := 2) Tryd.underlying29 (by kernel_rfl) (.inl ⟨rfl, rfl⟩) (.inr ⟨_, _, rfl, rfl, rfl⟩) (by omega) (by omega) trivial rfl rfl rfl rfl rfl ?_
      rw [cutA_zero]
      refine Pl.pA_call rfl rfl rfl rfl rfl (fun u X => Pl.enters Tryd.func16 (by kernel_rfl) rfl u X) ?_
      refine Calls.mono (same_eq _ (Es.ex (Es.ex hRb hZ) hE1) (Es.head (Es.ex (Es.ex hMb hZ) hE1) (by omega)) rfl) ?_
      rintro e w2 ⟨rfl, hE2⟩
      have sz2 := Pl.Ex.size hE2
      refine ⟨_, rfl, trivial, ?_⟩
      refine Pl.qA_go trivial rfl ?_
      refine Pl.qA_ln Tryd.underlying22 trivial rfl rfl rfl rfl rfl ?_
      refine Pl.qA_b (v := .bool true) (fun X => Pl.r_eql (Pl.e_t rfl) X) trivial rfl rfl rfl rfl rfl rfl ?_
      refine Pl.qA_go trivial rfl ?_
      refine Pl.qA_b (v := .bool true) (fun X => Pl.r_eql (Pl.e_t (by omega)) X) trivial rfl rfl rfl rfl rfl rfl ?_
      refine Pl.qA_go trivial rfl ?_
      refine Pl.qA_b (v := .bool true) (fun X => Pl.r_eql (Pl.e_t (by omega)) X) trivial rfl rfl rfl rfl rfl rfl ?_
      refine Pl.qA_b (v := .bool true) (fun X => r_eqlb true rfl X) trivial rfl rfl rfl rfl rfl rfl ?_
      refine Pl.qA_go trivial rfl ?_
      refine Pl.qA_b (v := .bool true) (fun X => Pl.r_eql (Pl.e_t (by omega)) X) trivial rfl rfl rfl rfl rfl rfl ?_
      refine Pl.qA_go trivial rfl ?_
      refine Pl.pA_end ?_
      repeat refine Pl.V_seq ?_
      exact Pl.post_ret rfl rfl ⟨rfl, Pl.Ex.trans hXb (Pl.Ex.trans hZ (Pl.Ex.trans hE1 hE2))⟩
    · rw [if_neg hke]
      repeat refine Pl.V_seq ?_
      refine Pl.V_region (by kernel_rfl) ?_
      refine Pl.qA_go trivial rfl ?_
      refine Pl.qA_sl (kl := .i64) (kh := .i64) (lo' := 0) (hi' := q) (s := 2) Tryd.underlying29 (by kernel_rfl) (.inl ⟨rfl, rfl⟩) (.inr ⟨_, _, rfl, rfl, rfl⟩) (by omega) (by omega) trivial rfl rfl rfl rfl rfl ?_
      rw [cutA_zero]
      refine Pl.pA_call rfl rfl rfl rfl rfl (fun u X => Pl.enters Tryd.func16 (by kernel_rfl) rfl u X) ?_
      refine Calls.mono (same_eq _ (Es.ex (Es.ex hRb hZ) hE1) (Es.head (Es.ex (Es.ex hMb hZ) hE1) (by omega)) rfl) ?_
      rintro e w2 ⟨rfl, hE2⟩
      have sz2 := Pl.Ex.size hE2
      refine ⟨_, rfl, trivial, ?_⟩
      refine Pl.qA_go trivial rfl ?_
      refine Pl.qA_ln Tryd.underlying22 trivial rfl rfl rfl rfl rfl ?_
      refine Pl.qA_b (v := .bool true) (fun X => Pl.r_eql (Pl.e_t rfl) X) trivial rfl rfl rfl rfl rfl rfl ?_
      refine Pl.qA_go trivial rfl ?_
      refine Pl.qA_b (v := .bool false) (fun X => Pl.r_eql (Pl.e_f (by omega)) X) trivial rfl rfl rfl rfl rfl rfl ?_
      refine Pl.qA_go trivial rfl ?_
      refine Pl.qA_b (v := .bool false) (fun X => Pl.r_eql (Pl.e_f (by omega)) X) trivial rfl rfl rfl rfl rfl rfl ?_
      refine Pl.qA_b (v := .bool true) (fun X => r_eqlb true rfl X) trivial rfl rfl rfl rfl rfl rfl ?_
      refine Pl.qA_go trivial rfl ?_
      refine Pl.qA_b (v := .bool false) (fun X => Pl.r_eql (Pl.e_f (by omega)) X) trivial rfl rfl rfl rfl rfl rfl ?_
      refine Pl.qA_go trivial rfl ?_
      refine Pl.qA_b (v := .bool true) (fun X => Pl.r_eql (Pl.e_t (by omega)) X) trivial rfl rfl rfl rfl rfl rfl ?_
      refine Pl.qA_go trivial rfl ?_
      refine Pl.pA_end ?_
      repeat refine Pl.V_seq ?_
      exact Pl.post_ret rfl rfl ⟨rfl, Pl.Ex.trans hXb (Pl.Ex.trans hZ (Pl.Ex.trans hE1 hE2))⟩
end Go.Proofs.YtmioaeaobefphaaDoor
/- StoreFlipped, walked. -/
namespace Go.Proofs.YtmioaeaobefphaaDoor
open Go.RowKit 
set_option linter.unusedVariables false
set_option linter.unusedSimpArgs false
set_option maxRecDepth 100000
set_option maxHeartbeats 4000000
/-- One byte of a row of the call's own. -/
theorem Gy.own {w : World} {base : Nat} {v : Value} {bs : T.Byt} (h : Gy w base v bs) {p : Nat} (hp : p < bs.length) : ∃ g c, v = .slice (some ⟨g, 0, none⟩) bs.length c ∧ base ≤ g ∧ g < w.heap.size ∧ w.cell? ⟨g, p, none⟩ = some (.int .u8 ((bs[p].toNat : Nat) : Int)) ∧ w.frozen? ⟨g, p, none⟩ = false ∧
    ∀ x : UInt8, Gy (w.setCell ⟨g, p, none⟩ (.int .u8 ((x.toNat : Nat) : Int))) base v (bs.set p x) := by
  rcases h.2 with ⟨_, h0⟩ | ⟨g, cap, cur, rfl, hb, hgg, hnc, hcm, hcs, htake, hok⟩
  · omega
  · have hlt := (Array.getElem?_eq_some_iff.1 hgg).1
    have hm2 : cap ≤ 9223372036854775807 := hcm
    have hsl := Pl.Gr.sl h (by omega)
    obtain ⟨ad, e, hc⟩ := Pl.Sl.at hsl (cB_get hp)
    cases e
    rw [Addr.add_mid, Nat.zero_add] at hc
    refine ⟨g, cap, rfl, hb, hlt, hc, by simp [World.frozen?, hgg], fun x => ?_⟩
    have hs := heap_setCell_same w g p _ _ (.int .u8 ((x.toNat : Nat) : Int)) hgg
    have e1 : Gy (w.setCell ⟨g, p, none⟩ (.int .u8 ((x.toNat : Nat) : Int))) base (.slice (some ⟨g, 0, none⟩) (bs.set p x).length cap) (bs.set p x) := by
      refine ⟨by rw [cB_len, Nat.mul_one], .inr ⟨g, cap, cur.setIfInBounds p (.int .u8 ((x.toNat : Nat) : Int)), rfl, hb, hs, by rw [List.length_set]; exact hnc, hcm, by rw [Array.size_setIfInBounds]; exact hcs, ?_, fun _ _ => trivial⟩⟩
      rw [List.length_set, Array.toList_setIfInBounds, List.take_set, htake]
      simp [cB, List.map_set]
    rwa [List.length_set] at e1
theorem T.rd_flip (M : List T.Ent) (hM : ∀ e ∈ M, T.May e) {k : Nat} (hk : k < M.length) {q : Nat} (h4 : 4 ≤ q) (hq : q < (T.recd M[k]).length) {x : UInt8} (hpl : (T.recs (M.take k)).length + q < (T.recs M).length) (hx : x ≠ (T.recs M)[(T.recs (M.take k)).length + q]) :
    T.rd ((T.recs M).set ((T.recs (M.take k)).length + q) x) = (M.take k, (T.recs (M.take k)).length, 300) := by
  have hs : T.recs M = T.recs (M.take k) ++ (T.recd M[k] ++ T.recs (M.drop (k + 1))) := by
    rw [← T.recs_one M[k], ← T.recs_append, ← T.recs_append]
    congr 1
    rw [List.singleton_append, ← List.drop_eq_getElem_cons hk, List.take_append_drop]
  have hmk : T.May M[k] := hM _ (List.getElem_mem hk)
  have hl2 : q < (T.recd M[k] ++ T.recs (M.drop (k + 1))).length := by rw [List.length_append]; omega
  have hx2 : x ≠ (T.recd M[k] ++ T.recs (M.drop (k + 1)))[q] := by
    intro e
    apply hx
    rw [e]
    have h6 : (T.recs M)[(T.recs (M.take k)).length + q]? = (T.recd M[k] ++ T.recs (M.drop (k + 1)))[q]? := by
      rw [hs, List.getElem?_append_right (by omega), Nat.add_sub_cancel_left]
    rw [List.getElem?_eq_getElem hpl, List.getElem?_eq_getElem hl2] at h6
    exact (Option.some.inj h6).symm
  have h1 := T.one_flip M[k] hmk (T.recs (M.drop (k + 1))) q h4 hq x hl2 hx2
  rw [hs, List.set_append_right _ _ (by omega), Nat.add_sub_cancel_left, T.rd_recs _ _ (fun e he => hM e (List.mem_of_mem_take he)), T.rd_sum h1]
  simp
theorem xor_ne {a b : UInt8} (h : b ≠ 0) : a ^^^ b ≠ a := fun e => h (by
  have : a ^^^ (a ^^^ b) = a ^^^ a := by rw [e]
  rwa [← UInt8.xor_assoc, UInt8.xor_self, UInt8.zero_xor] at this)
theorem written_head (w : World) {A : Option Addr} {n c lo k : Nat} {M : List T.Ent} (hM : Es w lo (.slice A n c) M) (hk : k ≤ M.length) (hmay : ∀ e ∈ M, T.May e) (hg : Gl w) (hb : (T.recs M).length ≤ 10000000) :
    Calls Tryd.prog 22 #[.slice A k c] w fun e w' => ∃ A c, e = .returned (.tuple #[.slice A (T.recs (M.take k)).length c, .bool true]) ∧ Pl.Ex w w' :=
  written_len w (Es.head hM hk) (fun e he => hmay e (List.mem_of_mem_take he)) hg (by have := recs_take_le M k; omega)
theorem StoreFlipped_walk (w : World) {v : Value} {lo : Nat} {l : List T.Ent} (hl : Es w lo v l) (p0 p1 : Nat) (hp0 : p0 < 65536) (hp1 : p1 < 65536) (y : Nat) (hy : y < 256) (hg : Gl w) :
    Calls Tryd.prog 6 #[v, .agg #[.int .u16 ((p0 : Nat) : Int), .int .u16 ((p1 : Nat) : Int)], .int .u8 ((y : Nat) : Int)] w fun e w' => e = .returned (.bool true) ∧ Pl.Ex w w' := by
  obtain ⟨Al, cl, rfl, hnl0, hcl⟩ := hl.sh
  refine Pl.calls_by (n := 133) (vs := [.slice Al l.length cl, .agg #[.int .u16 ((p0 : Nat) : Int), .int .u16 ((p1 : Nat) : Int)], .int .u8 ((y : Nat) : Int)]) Tryd.func6 rfl (by kernel_rfl) (by simp) ?_
  repeat refine Pl.V_seq ?_
  refine Pl.V_region (by kernel_rfl) ?_
  refine Pl.qA_bx (cs := [.int .u16 ((p0 : Nat) : Int), .int .u16 ((p1 : Nat) : Int)]) rfl rfl rfl rfl rfl rfl (fun Y hY => trivial) ?_
  intro N1 w1 hE1 hN_N1 k_N1_0
  have z_N1 := Pl.Cb.lt k_N1_0
  have sz1 := Pl.Ex.size hE1
  refine Pl.qA_go trivial rfl ?_
  refine Pl.pA_end ?_
  repeat refine Pl.V_seq ?_
  refine Pl.V_region (by kernel_rfl) ?_
  refine Pl.pA_call rfl rfl rfl rfl rfl (fun u X => Pl.enters Tryd.func11 (by kernel_rfl) rfl u X) ?_
  refine Calls.mono (head_calls _ (hg.ex hE1)) ?_
  rintro e w2 ⟨rfl, hE2⟩
  have sz2 := Pl.Ex.size hE2
  refine ⟨_, rfl, trivial, ?_⟩
  refine Pl.qA_go trivial rfl ?_
  refine Pl.pA_end ?_
  repeat refine Pl.V_seq ?_
  refine Pl.V_region (by kernel_rfl) ?_
  refine Pl.qA_go trivial rfl ?_
  refine Pl.pA_call rfl rfl rfl rfl rfl (fun u X => Pl.enters Tryd.func21 (by kernel_rfl) rfl u X) ?_
  refine Calls.mono (made_calls _ (Es.ex hl (Pl.Ex.trans hE1 hE2)) 12 (by omega)) ?_
  rintro e w3 ⟨vm, rfl, hM, hE3⟩
  have hmay := T.made_may l 12
  have hmr := T.made_recs l 12
  have hml := T.made_len l 12
  generalize T.made l 12 = M at *
  obtain ⟨Am, cm, rfl, hnm, hcm⟩ := Es.sh hM
  have sz3 := Pl.Ex.size hE3
  refine ⟨_, rfl, trivial, ?_⟩
  refine Pl.qA_go trivial rfl ?_
  refine Pl.pA_end ?_
  by_cases hz : M.length = 0
  · repeat refine Pl.V_seq ?_
    refine Pl.V_region (by kernel_rfl) ?_
    refine Pl.qA_go trivial rfl ?_
    refine Pl.qA_ln Tryd.underlying29 trivial rfl rfl rfl rfl rfl ?_
    refine Pl.qA_b (v := .bool true) (fun X => Pl.r_eql (Pl.e_t (by omega)) X) trivial rfl rfl rfl rfl rfl rfl ?_
    refine Pl.qA_go trivial rfl ?_
    refine Pl.pA_end ?_
    repeat refine Pl.V_seq ?_
    refine Pl.V_true rfl ?_
    repeat refine Pl.V_seq ?_
    refine Pl.V_region (by kernel_rfl) ?_
    refine Pl.qA_go trivial rfl ?_
    refine Pl.pA_end ?_
    repeat refine Pl.V_seq ?_
    exact Pl.post_ret rfl rfl ⟨rfl, (Pl.Ex.trans hE1 (Pl.Ex.trans hE2 hE3))⟩
  · by_cases hy0 : y = 0
    · repeat refine Pl.V_seq ?_
      refine Pl.V_region (by kernel_rfl) ?_
      refine Pl.qA_go trivial rfl ?_
      refine Pl.qA_ln Tryd.underlying29 trivial rfl rfl rfl rfl rfl ?_
      refine Pl.qA_b (v := .bool false) (fun X => Pl.r_eql (Pl.e_f (by omega)) X) trivial rfl rfl rfl rfl rfl rfl ?_
      refine Pl.qA_go trivial rfl ?_
      refine Pl.qA_b (v := .bool true) (fun X => Pl.r_eql (Pl.e_t (by omega)) X) trivial rfl rfl rfl rfl rfl rfl ?_
      refine Pl.qA_go trivial rfl ?_
      refine Pl.pA_end ?_
      repeat refine Pl.V_seq ?_
      refine Pl.V_true rfl ?_
      repeat refine Pl.V_seq ?_
      refine Pl.V_region (by kernel_rfl) ?_
      refine Pl.qA_go trivial rfl ?_
      refine Pl.pA_end ?_
      repeat refine Pl.V_seq ?_
      exact Pl.post_ret rfl rfl ⟨rfl, (Pl.Ex.trans hE1 (Pl.Ex.trans hE2 hE3))⟩
    · repeat refine Pl.V_seq ?_
      refine Pl.V_region (by kernel_rfl) ?_
      refine Pl.qA_go trivial rfl ?_
      refine Pl.qA_ln Tryd.underlying29 trivial rfl rfl rfl rfl rfl ?_
      refine Pl.qA_b (v := .bool false) (fun X => Pl.r_eql (Pl.e_f (by omega)) X) trivial rfl rfl rfl rfl rfl rfl ?_
      refine Pl.qA_go trivial rfl ?_
      refine Pl.qA_b (v := .bool false) (fun X => Pl.r_eql (Pl.e_f (by omega)) X) trivial rfl rfl rfl rfl rfl rfl ?_
      refine Pl.qA_go trivial rfl ?_
      refine Pl.pA_end ?_
      repeat refine Pl.V_seq ?_
      refine Pl.V_false rfl ?_
      repeat refine Pl.V_seq ?_
      refine Pl.V_skip ?_
      repeat refine Pl.V_seq ?_
      refine Pl.V_region (by kernel_rfl) ?_
      refine Pl.qA_ia (s := 1) (j := 0) Tryd.underlying43 (by kernel_rfl) rfl (by omega) trivial rfl rfl rfl rfl rfl rfl ?_
      refine Pl.qA_lcw (v := .int .u16 ((p0 : Nat) : Int)) Tryd.underlying41 rfl (by rw [Pl.add0]; exact Pl.Cb.at (j := 0) (Pl.Cb.ex k_N1_0 (Pl.Ex.trans hE2 hE3)) rfl) trivial rfl rfl rfl rfl rfl ?_
      refine Pl.qA_cv (c := ((p0 : Nat) : Int)) Tryd.underlying3 (by kernel_rfl) (Pl.c_id (a := p0) rfl (Pl.w64 (by omega) (by omega))) trivial rfl rfl rfl rfl rfl ?_
      refine Pl.qA_go trivial rfl ?_
      refine Pl.qA_ln Tryd.underlying29 trivial rfl rfl rfl rfl rfl ?_
      refine Pl.qA_b (v := .int .i64 (((p0 % M.length) : Nat) : Int)) (fun X => Pl.r_rem (by omega) (tm_nat p0 M.length) X) trivial rfl rfl rfl rfl rfl rfl ?_
      refine Pl.qA_go trivial rfl ?_
      refine Pl.pA_end ?_
      have hk : (p0 % M.length) < M.length := Nat.mod_lt _ (by omega)
      generalize (p0 % M.length) = k at *
      have hrs := recs_snoc M hk
      have hrl := congrArg List.length hrs
      rw [List.length_append] at hrl
      have h9 := T.recd_len M[k]
      have hu := recs_take_le M (k + 1)
      repeat refine Pl.V_seq ?_
      refine Pl.V_region (by kernel_rfl) ?_
      refine Pl.qA_go trivial rfl ?_
      refine Pl.qA_sl (kl := .i64) (kh := .i64) (lo' := 0) (hi' := k) (s := 2) Tryd.underlying29 (by kernel_rfl) (.inl ⟨rfl, rfl⟩) (.inr ⟨_, _, rfl, rfl, rfl⟩) (by omega) (by omega) trivial rfl rfl rfl rfl rfl ?_
      rw [cutA_zero]
      refine Pl.pA_call rfl rfl rfl rfl rfl (fun u X => Pl.enters Tryd.func22 (by kernel_rfl) rfl u X) ?_
      refine Calls.mono (written_head _ (Es.ex hM (Pl.Ex.refl _)) (k := k) (by omega) hmay (hg.ex (Pl.Ex.trans hE1 (Pl.Ex.trans hE2 hE3))) (by omega)) ?_
      rintro e w4 ⟨Ah, ch, rfl, hE4⟩
      have sz4 := Pl.Ex.size hE4
      refine ⟨_, rfl, trivial, ?_⟩
      refine Pl.qA_go trivial rfl ?_
      refine Pl.pA_end ?_
      repeat refine Pl.V_seq ?_
      refine Pl.V_region (by kernel_rfl) ?_
      refine Pl.qA_go trivial rfl ?_
      refine Pl.qA_b (v := .int .i64 (((k + 1) : Nat) : Int)) (fun X => Pl.r_add (Pl.a64 (a := k) (b := 1) rfl rfl (by omega)) X) trivial rfl rfl rfl rfl rfl rfl ?_
      refine Pl.qA_sl (kl := .i64) (kh := .i64) (lo' := 0) (hi' := ((k + 1))) (s := 2) Tryd.underlying29 (by kernel_rfl) (.inl ⟨rfl, rfl⟩) (.inr ⟨_, _, rfl, rfl, rfl⟩) (by omega) (by omega) trivial rfl rfl rfl rfl rfl ?_
      rw [cutA_zero]
      refine Pl.pA_call rfl rfl rfl rfl rfl (fun u X => Pl.enters Tryd.func22 (by kernel_rfl) rfl u X) ?_
      refine Calls.mono (written_head _ (Es.ex hM hE4) (k := (k + 1)) (by omega) hmay (hg.ex (Pl.Ex.trans hE1 (Pl.Ex.trans hE2 (Pl.Ex.trans hE3 hE4)))) (by omega)) ?_
      rintro e w5 ⟨Au, cu, rfl, hE5⟩
      have sz5 := Pl.Ex.size hE5
      refine ⟨_, rfl, trivial, ?_⟩
      refine Pl.qA_go trivial rfl ?_
      refine Pl.pA_end ?_
      repeat refine Pl.V_seq ?_
      refine Pl.V_region (by kernel_rfl) ?_
      refine Pl.qA_go trivial rfl ?_
      refine Pl.pA_call rfl rfl rfl rfl rfl (fun u X => Pl.enters Tryd.func22 (by kernel_rfl) rfl u X) ?_
      refine Calls.mono (written_calls _ (Es.ex hM (Pl.Ex.trans hE4 hE5)) hmay (hg.ex (Pl.Ex.trans hE1 (Pl.Ex.trans hE2 (Pl.Ex.trans hE3 (Pl.Ex.trans hE4 hE5))))) (by omega)) ?_
      rintro e w6 ⟨vl, rfl, hG, hE6⟩
      obtain ⟨A5, c5, rfl, hc5⟩ := Pl.Gr.shp hG
      have hL := Gy.by hG (by omega)
      have sz6 := Pl.Ex.size hE6
      refine ⟨_, rfl, trivial, ?_⟩
      refine Pl.qA_go trivial rfl ?_
      refine Pl.pA_end ?_
      repeat refine Pl.V_seq ?_
      refine Pl.V_region (by kernel_rfl) ?_
      refine Pl.qA_go trivial rfl ?_
      refine Pl.qA_un (v := .bool false) trivial rfl rfl rfl rfl rfl (fun X => rfl) ?_
      refine Pl.qA_go trivial rfl ?_
      refine Pl.qA_un (v := .bool false) trivial rfl rfl rfl rfl rfl (fun X => rfl) ?_
      refine Pl.qA_go trivial rfl ?_
      refine Pl.qA_un (v := .bool false) trivial rfl rfl rfl rfl rfl (fun X => rfl) ?_
      refine Pl.qA_go trivial rfl ?_
      refine Pl.qA_ln Tryd.underlying22 trivial rfl rfl rfl rfl rfl ?_
      refine Pl.qA_go trivial rfl ?_
      refine Pl.qA_ln Tryd.underlying22 trivial rfl rfl rfl rfl rfl ?_
      refine Pl.qA_b (v := .int .i64 ((((T.recs (M.take k)).length + 9) : Nat) : Int)) (fun X => Pl.r_add (Pl.a64 (a := (T.recs (M.take k)).length) (b := 9) rfl rfl (by omega)) X) trivial rfl rfl rfl rfl rfl rfl ?_
      refine Pl.qA_b (v := .bool false) (fun X => Pl.r_lss (decide_eq_false (by omega)) X) trivial rfl rfl rfl rfl rfl rfl ?_
      refine Pl.qA_go trivial rfl ?_
      refine Pl.qA_ln Tryd.underlying22 trivial rfl rfl rfl rfl rfl ?_
      refine Pl.qA_go trivial rfl ?_
      refine Pl.qA_ln Tryd.underlying22 trivial rfl rfl rfl rfl rfl ?_
      refine Pl.qA_b (v := .bool false) (fun X => Pl.r_lss (decide_eq_false (by omega)) X) trivial rfl rfl rfl rfl rfl rfl ?_
      refine Pl.qA_go trivial rfl ?_
      refine Pl.pA_end ?_
      repeat refine Pl.V_seq ?_
      refine Pl.V_false rfl ?_
      repeat refine Pl.V_seq ?_
      refine Pl.V_skip ?_
      repeat refine Pl.V_seq ?_
      refine Pl.V_region (by kernel_rfl) ?_
      refine Pl.qA_go trivial rfl ?_
      refine Pl.qA_ln Tryd.underlying22 trivial rfl rfl rfl rfl rfl ?_
      refine Pl.qA_b (v := .int .i64 ((((T.recs (M.take k)).length + 4) : Nat) : Int)) (fun X => Pl.r_add (Pl.a64 (a := (T.recs (M.take k)).length) (b := 4) rfl rfl (by omega)) X) trivial rfl rfl rfl rfl rfl rfl ?_
      refine Pl.qA_ia (s := 1) (j := 1) Tryd.underlying43 (by kernel_rfl) rfl (by omega) trivial rfl rfl rfl rfl rfl rfl ?_
      refine Pl.qA_lcw (v := .int .u16 ((p1 : Nat) : Int)) Tryd.underlying41 rfl (by rw [Pl.add0]; exact Pl.Cb.at (j := 1) (Pl.Cb.ex k_N1_0 (Pl.Ex.trans hE2 (Pl.Ex.trans hE3 (Pl.Ex.trans hE4 (Pl.Ex.trans hE5 hE6))))) rfl) trivial rfl rfl rfl rfl rfl ?_
      refine Pl.qA_cv (c := ((p1 : Nat) : Int)) Tryd.underlying3 (by kernel_rfl) (Pl.c_id (a := p1) rfl (Pl.w64 (by omega) (by omega))) trivial rfl rfl rfl rfl rfl ?_
      refine Pl.qA_go trivial rfl ?_
      refine Pl.qA_ln Tryd.underlying22 trivial rfl rfl rfl rfl rfl ?_
      refine Pl.qA_go trivial rfl ?_
      refine Pl.qA_ln Tryd.underlying22 trivial rfl rfl rfl rfl rfl ?_
      refine Pl.qA_b (v := .int .i64 ((((T.recs (M.take (k + 1))).length - (T.recs (M.take k)).length) : Nat) : Int)) (fun X => Pl.r_sub (Pl.s64 (a := (T.recs (M.take (k + 1))).length) (b := (T.recs (M.take k)).length) rfl rfl (by omega) (by omega)) X) trivial rfl rfl rfl rfl rfl rfl ?_
      refine Pl.qA_b (v := .int .i64 (((((T.recs (M.take (k + 1))).length - (T.recs (M.take k)).length) - 4) : Nat) : Int)) (fun X => Pl.r_sub (Pl.s64 (a := ((T.recs (M.take (k + 1))).length - (T.recs (M.take k)).length)) (b := 4) rfl rfl (by omega) (by omega)) X) trivial rfl rfl rfl rfl rfl rfl ?_
      refine Pl.qA_b (v := .int .i64 (((p1 % (((T.recs (M.take (k + 1))).length - (T.recs (M.take k)).length) - 4)) : Nat) : Int)) (fun X => Pl.r_rem (by omega) (tm_nat p1 (((T.recs (M.take (k + 1))).length - (T.recs (M.take k)).length) - 4)) X) trivial rfl rfl rfl rfl rfl rfl ?_
      have hqm := Nat.mod_lt p1 (show 0 < ((T.recs (M.take (k + 1))).length - (T.recs (M.take k)).length) - 4 by omega)
      generalize hqd : (p1 % (((T.recs (M.take (k + 1))).length - (T.recs (M.take k)).length) - 4)) = q0 at *
      refine Pl.qA_b (v := .int .i64 (((T.recs (M.take k)).length + (4 + q0) : Nat) : Int)) (fun X => Pl.r_add (by rw [Pl.w64 (by omega) (by omega)]; omega) X) trivial rfl rfl rfl rfl rfl rfl ?_
      refine Pl.qA_go trivial rfl ?_
      refine Pl.pA_end ?_
      have hpl : ((T.recs (M.take k)).length + (4 + q0)) < (T.recs M).length := by omega
      repeat refine Pl.V_seq ?_
      refine Pl.V_region (by kernel_rfl) ?_
      refine Pl.qA_bs (e := 5) (n := 0) [] rfl rfl rfl rfl (by kernel_rfl) (fun Y hY => trivial) ?_
      intro N2 w7 hE7 hN_N2 k_N2_0
      have z_N2 := Pl.Cb.lt k_N2_0
      have sz7 := Pl.Ex.size hE7
      refine Pl.qA_go trivial rfl ?_
      refine Pl.qA_gr (bytes := 1) (z := .int .u8 0) (tx := 22) (news := cB ((T.recs M))) (Gy.nilCb (base := w6.heap.size) k_N2_0 (by omega)) (By.src (By.ex hL hE7)) Tryd.underlying22 (by kernel_rfl) rfl (fun _ _ => trivial) (fun _ _ => trivial) (by first | omega | (simp; omega)) (by decide) (Pl.Ex.size hE7) rfl rfl rfl rfl rfl rfl (fun _ _ => trivial) ?_
      intro v3 w8 g3 hg3
      have hE8 := Pl.Ex.grown hE7 hg3 (fun k hk => (Pl.Gr.lies (Gy.nilCb (base := w6.heap.size) k_N2_0 (by omega)) k hk).1)
      replace g3 := Gy.app g3
      rw [List.nil_append] at g3
      obtain ⟨g8, c8, rfl, hg8b, hg8l, hcell, hfz, hset⟩ := Gy.own g3 hpl
      refine Pl.qA_go trivial rfl ?_
      refine Pl.pA_end ?_
      have hxy : ((T.recs M)[((T.recs (M.take k)).length + (4 + q0))] ^^^ UInt8.ofNat y).toNat = (T.recs M)[((T.recs (M.take k)).length + (4 + q0))].toNat ^^^ y := by rw [UInt8.toNat_xor, UInt8.toNat_ofNat']; congr 1; exact Nat.mod_eq_of_lt hy
      have hx8 := (T.recs M)[((T.recs (M.take k)).length + (4 + q0))].toNat_lt
      have hne : (T.recs M)[((T.recs (M.take k)).length + (4 + q0))] ^^^ UInt8.ofNat y ≠ (T.recs M)[((T.recs (M.take k)).length + (4 + q0))] := xor_ne (fun e => hy0 (by have := congrArg UInt8.toNat e; rw [UInt8.toNat_ofNat'] at this; have e2 : y % 2 ^ 8 = 0 := this; omega))
      have hrd := T.rd_flip M hmay hk (q := 4 + q0) (by omega) (by omega) hpl hne
      replace hset := hset ((T.recs M)[((T.recs (M.take k)).length + (4 + q0))] ^^^ UInt8.ofNat y)
      rw [hxy] at hset
      generalize (T.recs M)[((T.recs (M.take k)).length + (4 + q0))].toNat = x0 at *
      generalize (T.recs M)[((T.recs (M.take k)).length + (4 + q0))] ^^^ UInt8.ofNat y = xb at *
      repeat refine Pl.V_seq ?_
      refine Pl.V_region (by kernel_rfl) ?_
      refine Pl.qA_go trivial rfl ?_
      refine Pl.qA_ix (s := 1) (j := (((T.recs (M.take k)).length + (4 + q0)))) Tryd.underlying22 (by kernel_rfl) rfl (by omega) trivial rfl rfl rfl rfl rfl rfl ?_
      refine Pl.qA_lcw (v := .int .u8 ((x0 : Nat) : Int)) Tryd.underlying5 rfl (by rw [Pl.add0]; exact hcell) trivial rfl rfl rfl rfl rfl ?_
      refine Pl.qA_go trivial rfl ?_
      refine Pl.qA_b (v := .int .u8 (((x0 ^^^ y) : Nat) : Int)) (fun X => Pl.r_xor8 (a := x0) (b := y) (by omega) (by omega) rfl rfl rfl X) trivial rfl rfl rfl rfl rfl rfl ?_
      refine Pl.qA_ix (s := 1) (j := (((T.recs (M.take k)).length + (4 + q0)))) Tryd.underlying22 (by kernel_rfl) rfl (by omega) trivial rfl rfl rfl rfl rfl rfl ?_
      refine Pl.qA_store rfl rfl rfl rfl rfl rfl (Pl.run_st (by kernel_rfl) rfl rfl (by rw [Pl.add0]; exact hcell) (by rw [Pl.add0]; exact hfz)) trivial ?_
      rw [Pl.add0]
      have hXs := Pl.Xs.set w8 g8 ((T.recs (M.take k)).length + (4 + q0)) (.int .u8 ((x0 ^^^ y : Nat) : Int))
      generalize w8.setCell ⟨g8, ((T.recs (M.take k)).length + (4 + q0)), none⟩ (.int .u8 ((x0 ^^^ y : Nat) : Int)) = w9 at *
      have hE9 := Pl.Ex.xs hE8 hXs (by omega)
      have sz9 := Pl.Ex.size hE9
      refine Pl.pA_end ?_
      repeat refine Pl.V_seq ?_
      refine Pl.V_region (by kernel_rfl) ?_
      refine Pl.qA_go trivial rfl ?_
      refine Pl.pA_call rfl rfl rfl rfl rfl (fun u X => Pl.enters Tryd.func14 (by kernel_rfl) rfl u X) ?_
      refine Calls.mono (read_calls _ (By.ex (Gy.by hset (by rw [List.length_set]; omega)) (Pl.Ex.refl _)) (hg.ex (Pl.Ex.trans hE1 (Pl.Ex.trans hE2 (Pl.Ex.trans hE3 (Pl.Ex.trans hE4 (Pl.Ex.trans hE5 (Pl.Ex.trans hE6 hE9))))))) (by rw [List.length_set]; omega)) ?_
      rintro e w10 ⟨rv, rfl, hR, hE10⟩
      rw [hrd] at hR ⊢
      have sz10 := Pl.Ex.size hE10
      refine ⟨_, rfl, trivial, ?_⟩
      refine Pl.qA_go trivial rfl ?_
      refine Pl.pA_end ?_
      repeat refine Pl.V_seq ?_
      refine Pl.V_region (by kernel_rfl) ?_
      refine Pl.qA_go trivial rfl ?_
      refine Pl.qA_b (v := .bool true) (fun X => Pl.r_eql (Pl.e_t rfl) X) trivial rfl rfl rfl rfl rfl rfl ?_
      refine Pl.qA_go trivial rfl ?_
      refine Pl.qA_ln Tryd.underlying22 trivial rfl rfl rfl rfl rfl ?_
      refine Pl.qA_b (v := .bool true) (fun X => Pl.r_eql (Pl.e_t rfl) X) trivial rfl rfl rfl rfl rfl rfl ?_
      refine Pl.qA_go trivial rfl ?_
      refine Pl.qA_sl (kl := .i64) (kh := .i64) (lo' := 0) (hi' := k) (s := 2) Tryd.underlying29 (by kernel_rfl) (.inl ⟨rfl, rfl⟩) (.inr ⟨_, _, rfl, rfl, rfl⟩) (by omega) (by omega) trivial rfl rfl rfl rfl rfl ?_
      rw [cutA_zero]
      refine Pl.pA_call rfl rfl rfl rfl rfl (fun u X => Pl.enters Tryd.func16 (by kernel_rfl) rfl u X) ?_
      refine Calls.mono (same_eq _ (Es.ex hR (Pl.Ex.refl _)) (Es.head (Es.ex hM (Pl.Ex.trans hE4 (Pl.Ex.trans hE5 (Pl.Ex.trans hE6 (Pl.Ex.trans hE9 hE10))))) (k := k) (by omega)) rfl) ?_
      rintro e w11 ⟨rfl, hE11⟩
      have sz11 := Pl.Ex.size hE11
      refine ⟨_, rfl, trivial, ?_⟩
      refine Pl.qA_go trivial rfl ?_
      refine Pl.pA_end ?_
      repeat refine Pl.V_seq ?_
      exact Pl.post_ret rfl rfl ⟨rfl, (Pl.Ex.trans hE1 (Pl.Ex.trans hE2 (Pl.Ex.trans hE3 (Pl.Ex.trans hE4 (Pl.Ex.trans hE5 (Pl.Ex.trans hE6 (Pl.Ex.trans hE9 (Pl.Ex.trans hE10 hE11))))))))⟩
end Go.Proofs.YtmioaeaobefphaaDoor
/- Sums keep to differences. -/
namespace Go.Proofs.YtmioaeaobefphaaDoor
open Go.RowKit
set_option linter.unusedVariables false
def zx (a b : T.Byt) : T.Byt := List.zipWith (· ^^^ ·) a b
theorem nb_zx : ∀ (a b : T.Byt), T.nb (zx a b) = List.zipWith (· ^^^ ·) (T.nb a) (T.nb b)
  | [], _ => by simp [zx, T.nb]
  | _ :: _, [] => by simp [zx, T.nb]
  | x :: a, y :: b => by
    have := nb_zx a b
    simp only [zx, T.nb, List.zipWith_cons_cons, List.map_cons, UInt8.toNat_xor] at *
    rw [this]
theorem nb_zero (n : Nat) : T.nb (List.replicate n 0) = List.replicate n 0 := by simp [T.nb]
theorem zip_zero : ∀ (l : List Nat), List.zipWith (· ^^^ ·) l (List.replicate l.length 0) = l
  | [] => rfl
  | x :: l => by
    rw [List.length_cons, List.replicate_succ, List.zipWith_cons_cons, zip_zero l, Nat.xor_zero]
theorem zx_len {a b : T.Byt} (h : a.length = b.length) : (zx a b).length = a.length := by unfold zx; rw [List.length_zipWith]; omega
/-- The sum of the difference is the difference of the sums. -/
theorem csum_zx (a b : T.Byt) (h : a.length = b.length) : T.csum (zx a b) = T.csum a ^^^ T.csum b ^^^ T.csum (List.replicate a.length 0) := by
  have hl : (T.nb a).length = (T.nb b).length := by simpa [T.nb] using h
  have h1 := T.crc_xor3 (T.nb a) (T.nb b) (T.nb (List.replicate a.length 0)) 4294967295 4294967295 4294967295 hl (by simp [T.nb])
  rw [← nb_zx, nb_zero] at h1
  have hz : (T.nb (zx a b)).length = a.length := by simpa [T.nb] using zx_len h
  have h2 := zip_zero (T.nb (zx a b))
  rw [hz] at h2
  rw [h2] at h1
  unfold T.csum
  rw [← nb_zero a.length] at h1
  have e : (4294967295 ^^^ 4294967295 ^^^ 4294967295 : Nat) = 4294967295 := by decide
  rw [e] at h1
  rw [h1]
  generalize T.crc 4294967295 (T.nb a) = x
  generalize T.crc 4294967295 (T.nb b) = y
  generalize T.crc 4294967295 (T.nb (List.replicate a.length 0)) = z
  apply Nat.eq_of_testBit_eq
  intro i
  simp only [Nat.testBit_xor]
  cases x.testBit i <;> cases y.testBit i <;> cases z.testBit i <;> cases (4294967295 : Nat).testBit i <;> rfl
end Go.Proofs.YtmioaeaobefphaaDoor
/- StoreSums, walked. -/
namespace Go.Proofs.YtmioaeaobefphaaDoor
open Go.RowKit 
set_option linter.unusedVariables false
set_option linter.unusedSimpArgs false
set_option maxRecDepth 100000
set_option maxHeartbeats 4000000
section
variable {P : Program} {T : TypeId} {x y : Operand} {a b : Nat} {za zb : Int}
theorem div_le' (a b : Nat) : a / b ≤ a := Nat.div_le_self a b
theorem nb_add_i64 (h : a + b ≤ 9223372036854775807) (X : World) : Pl.Bn P .add T x y (.int .i64 ((a : Nat) : Int)) (.int .i64 ((b : Nat) : Int)) X = .ok (.int .i64 ((a + b : Nat) : Int)) X := Pl.r_add (Pl.a64 rfl rfl h) X
theorem nb_mul_i64 (h : a * b ≤ 9223372036854775807) (X : World) : Pl.Bn P .mul T x y (.int .i64 ((a : Nat) : Int)) (.int .i64 ((b : Nat) : Int)) X = .ok (.int .i64 ((a * b : Nat) : Int)) X := Pl.r_mul (by rw [← Int.natCast_mul, Pl.w64 (by omega) (by omega)]) X
theorem nb_quo_i64 (h0 : b ≠ 0) (h : a ≤ 9223372036854775807) (X : World) : Pl.Bn P .quo T x y (.int .i64 ((a : Nat) : Int)) (.int .i64 ((b : Nat) : Int)) X = .ok (.int .i64 ((a / b : Nat) : Int)) X := Pl.r_quo (by omega) (by rw [← Int.ofNat_tdiv]; have := div_le' a b; generalize a / b = q at *; exact Pl.w64 (by omega) (by omega)) X
theorem nb_rem_i64 (h0 : b ≠ 0) (_ : a ≤ a) (X : World) : Pl.Bn P .rem T x y (.int .i64 ((a : Nat) : Int)) (.int .i64 ((b : Nat) : Int)) X = .ok (.int .i64 ((a % b : Nat) : Int)) X := Pl.r_rem (by omega) (Int.ofNat_tmod a b).symm X
theorem Pl.Bn.as {op : BinOp} {u u' v v' : Value} (h : ∀ X, Pl.Bn P op T x y u u' X = .ok v X) (e : v = v') (X : World) : Pl.Bn P op T x y u u' X = .ok v' X := e ▸ h X
theorem nb_shl8y {m c : Nat} {k' : IntKind} (hm : m < 8) (hc : 2 ^ m = c) (X : World) : Pl.Bn P .shl T x y (.int .u8 1) (.int k' ((m : Nat) : Int)) X = .ok (.int .u8 ((c : Nat) : Int)) X := by
  subst hc
  have h2 : (2 : Nat) ^ m < 256 := Nat.lt_of_lt_of_le (Nat.pow_lt_pow_right (by decide) (show m < 8 by omega)) (by decide)
  have := Pl.r_shl (P := P) (T := T) (x := x) (y := y) (k := .u8) (k' := k') (n := 1) (m := m) (c := 2 ^ m) rfl (show m ≤ 8 by omega) (by rw [Nat.one_mul]; generalize 2 ^ m = q at *; exact Pl.w8 (by omega) (by omega)) X
  exact this
end
/-- Two rows in different blocks. -/
def Ds (v u : Value) : Prop := ∀ g, v.ownBlock = some g → u.ownBlock ≠ some g
theorem Ds.kept {v u : Value} (h : Ds v u) : u.ownBlock = none ∨ u.ownBlock ≠ v.ownBlock := by
  cases e : u.ownBlock with
  | none => exact .inl rfl
  | some g => exact .inr fun e2 => h g e2.symm e
theorem Ds.symm {v u : Value} (h : Ds v u) : Ds u v := fun g h1 h2 => h g h2 h1
theorem Ds.new {v v' u : Value} {w : World} (h : Ds v u) (hv : ∀ g, v'.ownBlock = some g → v.ownBlock = some g ∨ w.heap.size ≤ g) (hu : ∀ g, u.ownBlock = some g → g < w.heap.size) : Ds v' u := fun g h1 h2 => by
  rcases hv g h1 with h3 | h3
  · exact h g h3 h2
  · have := hu g h2; omega
theorem Ds.lits {N M c d : Nat} (h : N ≠ M) : Ds (.slice (some ⟨N, 0, none⟩) 0 c) (.slice (some ⟨M, 0, none⟩) 0 d) := fun g h1 h2 => by
  simp [Value.ownBlock] at h1 h2
  omega
theorem By.load {w : World} {lo n c : Nat} {A : Option Addr} {bs : T.Byt} (h : By w lo (.slice A n c) bs) (h0 : 0 < bs.length) : ∃ ad, A = some ad ∧ ∀ j (hj : j < bs.length), ∀ X, Pl.Ex w X → X.cell? (ad.add (j * 1)) = some (.int .u8 ((bs[j].toNat : Nat) : Int)) := by
  obtain ⟨ad, e, hc⟩ := By.all h h0
  refine ⟨ad, e, fun j hj X hX => ?_⟩
  rw [hc j hj X hX, T.bt, List.getElem?_eq_getElem hj]
  rfl
theorem zx_snoc (a b : T.Byt) {i : Nat} (ha : i < a.length) (hb : i < b.length) : zx (a.take i) (b.take i) ++ [a[i] ^^^ b[i]] = zx (a.take (i + 1)) (b.take (i + 1)) := by
  rw [take_snoc a ha, take_snoc b hb]
  unfold zx
  rw [List.zipWith_append (by rw [List.length_take, List.length_take]; omega)]
  rfl
theorem rep_snoc (i : Nat) : List.replicate i (0 : UInt8) ++ [0] = List.replicate (i + 1) 0 := List.replicate_succ'.symm
theorem xor_ne8 {a b : UInt8} (h : b ≠ 0) : a ^^^ b ≠ a := fun e => h (by
  have : a ^^^ (a ^^^ b) = a ^^^ a := by rw [e]
  rwa [← UInt8.xor_assoc, UInt8.xor_self, UInt8.zero_xor] at this)
theorem two_lt8 {m : Nat} (hm : m < 8) : 2 ^ m < 256 := Nat.lt_of_lt_of_le (Nat.pow_lt_pow_right (by decide) (show m < 8 by omega)) (by decide)
theorem csum_end (a b : T.Byt) (h : a.length ≤ b.length) : T.csum (zx (a.take a.length) (b.take a.length)) = T.csum a ^^^ T.csum (b.take a.length) ^^^ T.csum (List.replicate a.length 0) := by
  rw [List.take_length, csum_zx a _ (by rw [List.length_take]; omega)]
theorem StoreSums_walk (w : World) {va vb : Value} {la lb : Nat} {a b : T.Byt} (ha : By w la va a) (hb : By w lb vb b) (t : Nat) (ht : t < 65536) (hg : Gl w) :
    Calls Tryd.prog 10 #[va, vb, .int .u16 ((t : Nat) : Int)] w fun e w' => e = .returned (.bool true) ∧ Pl.Ex w w' := by
  obtain ⟨A, c, rfl, hn, hc⟩ := ha.sh
  obtain ⟨B, d, rfl, hm, hd⟩ := hb.sh
  refine Pl.calls_by (n := 98) (vs := [.slice A a.length c, .slice B b.length d, .int .u16 ((t : Nat) : Int)]) Tryd.func10 rfl (by kernel_rfl) (by simp) ?_
  repeat refine Pl.V_seq ?_
  refine Pl.V_region (by kernel_rfl) ?_
  refine Pl.qA_go trivial rfl ?_
  refine Pl.pA_end ?_
  repeat refine Pl.V_seq ?_
  refine Pl.V_region (by kernel_rfl) ?_
  refine Pl.pA_call rfl rfl rfl rfl rfl (fun u X => Pl.enters Tryd.func11 (by kernel_rfl) rfl u X) ?_
  refine Calls.mono (head_calls _ (hg.ex (Pl.Ex.refl _))) ?_
  rintro e w1 ⟨rfl, hE1⟩
  have sz1 := Pl.Ex.size hE1
  refine ⟨_, rfl, trivial, ?_⟩
  refine Pl.qA_go trivial rfl ?_
  refine Pl.pA_end ?_
  repeat refine Pl.V_seq ?_
  refine Pl.V_region (by kernel_rfl) ?_
  refine Pl.qA_go trivial rfl ?_
  refine Pl.qA_ln Tryd.underlying22 trivial rfl rfl rfl rfl rfl ?_
  by_cases c1 : a.length > 1000
  · refine Pl.qA_b (v := .bool true) (fun X => Pl.r_gtr (decide_eq_true (by omega)) X) trivial rfl rfl rfl rfl rfl rfl ?_
    refine Pl.qA_go trivial rfl ?_
    refine Pl.pA_end ?_
    repeat refine Pl.V_seq ?_
    refine Pl.V_true rfl ?_
    repeat refine Pl.V_seq ?_
    refine Pl.V_region (by kernel_rfl) ?_
    refine Pl.qA_go trivial rfl ?_
    refine Pl.pA_end ?_
    repeat refine Pl.V_seq ?_
    exact Pl.post_ret rfl rfl  (⟨rfl, hE1⟩)
  · refine Pl.qA_b (v := .bool false) (fun X => Pl.r_gtr (decide_eq_false (by omega)) X) trivial rfl rfl rfl rfl rfl rfl ?_
    refine Pl.qA_go trivial rfl ?_
    refine Pl.qA_ln Tryd.underlying22 trivial rfl rfl rfl rfl rfl ?_
    refine Pl.qA_go trivial rfl ?_
    refine Pl.qA_ln Tryd.underlying22 trivial rfl rfl rfl rfl rfl ?_
    by_cases c2 : b.length < a.length
    · refine Pl.qA_b (v := .bool true) (fun X => Pl.r_lss (decide_eq_true (by omega)) X) trivial rfl rfl rfl rfl rfl rfl ?_
      refine Pl.qA_go trivial rfl ?_
      refine Pl.pA_end ?_
      repeat refine Pl.V_seq ?_
      refine Pl.V_true rfl ?_
      repeat refine Pl.V_seq ?_
      refine Pl.V_region (by kernel_rfl) ?_
      refine Pl.qA_go trivial rfl ?_
      refine Pl.pA_end ?_
      repeat refine Pl.V_seq ?_
      exact Pl.post_ret rfl rfl  (⟨rfl, hE1⟩)
    · refine Pl.qA_b (v := .bool false) (fun X => Pl.r_lss (decide_eq_false (by omega)) X) trivial rfl rfl rfl rfl rfl rfl ?_
      refine Pl.qA_go trivial rfl ?_
      refine Pl.pA_end ?_
      repeat refine Pl.V_seq ?_
      refine Pl.V_false rfl ?_
      repeat refine Pl.V_seq ?_
      refine Pl.V_skip ?_
      repeat refine Pl.V_seq ?_
      refine Pl.V_region (by kernel_rfl) ?_
      refine Pl.qA_bs (e := 5) (n := 0) [] rfl rfl rfl rfl (by kernel_rfl) (fun Y hY => trivial) ?_
      intro N3 w2 hE2 hN_N3 k_N3_0
      have z_N3 := Pl.Cb.lt k_N3_0
      have sz2 := Pl.Ex.size hE2
      refine Pl.qA_go trivial rfl ?_
      refine Pl.pA_end ?_
      repeat refine Pl.V_seq ?_
      refine Pl.V_region (by kernel_rfl) ?_
      refine Pl.qA_bs (e := 5) (n := 0) [] rfl rfl rfl rfl (by kernel_rfl) (fun Y hY => trivial) ?_
      intro N4 w3 hE3 hN_N4 k_N4_0
      have z_N4 := Pl.Cb.lt k_N4_0
      have sz3 := Pl.Ex.size hE3
      refine Pl.qA_go trivial rfl ?_
      refine Pl.pA_end ?_
      repeat refine Pl.V_seq ?_
      refine Pl.V_region (by kernel_rfl) ?_
      refine Pl.qA_go trivial rfl ?_
      refine Pl.pA_end ?_
      repeat refine Pl.V_seq ?_
      refine Pl.V_block ?_
      repeat refine Pl.V_seq ?_
      refine Pl.V_sub [(0, .slice A a.length c), (1, .slice B b.length d), (2, .int .u16 ((t : Nat) : Int)), (7, .bool true), (8, .slice (some ⟨N3, 0, none⟩) 0 0), (9, .slice (some ⟨N4, 0, none⟩) 0 0), (10, .int .i64 0)] (Pl.subl_cons rfl (Pl.subl_cons rfl (Pl.subl_cons rfl (Pl.subl_cons rfl (Pl.subl_cons rfl (Pl.subl_cons rfl (Pl.subl_cons rfl Pl.subl_nil))))))) ?_
      repeat refine Pl.V_seq ?_
      refine Pl.V_loop (fun kq l' w' => ∃ (i : Nat) (v1 : Value) (v2 : Value), a.length - i = kq ∧ (Pl.Ex w w') ∧ (i ≤ a.length) ∧ (Gy w' w.heap.size v1 (zx (a.take i) (b.take i))) ∧ (Gy w' w.heap.size v2 (List.replicate i 0)) ∧ (Ds v1 v2) ∧ l' = [(0, .slice A a.length c), (1, .slice B b.length d), (2, .int .u16 ((t : Nat) : Int)), (7, .bool true), (8, v1), (9, v2), (10, .int .i64 ((i : Nat) : Int))]) _ ⟨0, _, _, rfl, (Pl.Ex.trans hE1 (Pl.Ex.trans hE2 hE3)), (Nat.zero_le _), (Gy.nilCb (base := w.heap.size) (Pl.Cb.ex k_N3_0 hE3) (by omega)), (Gy.nilCb (base := w.heap.size) k_N4_0 (by omega)), (Ds.lits (by omega)), rfl⟩ ?_
      rintro kq _ w4 ⟨i, v1, v2, hk4, hE4, hi, hG1, hG2, hD, rfl⟩
      have sz4 := Pl.Ex.size hE4
      repeat refine Pl.V_seq ?_
      refine Pl.V_region (by kernel_rfl) ?_
      refine Pl.qA_go trivial rfl ?_
      refine Pl.qA_ln Tryd.underlying22 trivial rfl rfl rfl rfl rfl ?_
      by_cases c5 : i < a.length
      · refine Pl.qA_b (v := .bool true) (fun X => Pl.r_lss (decide_eq_true (by omega)) X) trivial rfl rfl rfl rfl rfl rfl ?_
        refine Pl.pA_end ?_
        repeat refine Pl.V_seq ?_
        refine Pl.V_true rfl ?_
        repeat refine Pl.V_seq ?_
        refine Pl.V_skip ?_
        repeat refine Pl.V_seq ?_
        refine Pl.V_block ?_
        repeat refine Pl.V_seq ?_
        refine Pl.V_draw (S := fun X => Pl.Ex w X) [(true, 0, 0), (true, 1, 1), (true, 2, 3), (true, 3, 7), (true, 4, 15), (true, 5, 31), (true, 6, 63), (true, 7, 127), (true, 8, 255), (true, 9, 511), (false, 10, 1023), (false, 11, 2047), (true, 12, 4095)] fo (by repeat first | exact Pl.post_panic | refine Pl.pn_block ?_ | refine Pl.pn_then ?_ | refine Pl.pn_ks ?_ | refine Pl.pn_goto ?_) (by kernel_rfl) (Pl.Ex.trans hE4 (Pl.Ex.drew _)) ?_
        have hE5 := Pl.Ex.drew w4
        generalize w4.drew = w5 at *
        have sz5 := Pl.Ex.size hE5
        intro hS5
        refine Pl.qA_go hS5 rfl ?_
        have hib : i < b.length := by omega
        obtain ⟨ada, eA, hla⟩ := By.load ha (by omega)
        obtain ⟨adb, eB, hlb⟩ := By.load hb (by omega)
        subst eA eB
        have hxy := UInt8.toNat_xor a[i] b[i]
        have hx1 := a[i].toNat_lt
        have hx2 := b[i].toNat_lt
        refine Pl.qA_ix (s := 1) (j := i) Tryd.underlying22 (by kernel_rfl) rfl (by omega) hS5 rfl rfl rfl rfl rfl rfl ?_
        refine Pl.qA_lc (v := .int .u8 ((a[i].toNat : Nat) : Int)) Tryd.underlying5 rfl (fun X hX => hla i (by omega) X hX) hS5 rfl rfl rfl rfl rfl ?_
        refine Pl.qA_go hS5 rfl ?_
        refine Pl.qA_ix (s := 1) (j := i) Tryd.underlying22 (by kernel_rfl) rfl (by omega) hS5 rfl rfl rfl rfl rfl rfl ?_
        refine Pl.qA_lc (v := .int .u8 ((b[i].toNat : Nat) : Int)) Tryd.underlying5 rfl (fun X hX => hlb i hib X hX) hS5 rfl rfl rfl rfl rfl ?_
        refine Pl.qA_b (v := .int .u8 (((a[i] ^^^ b[i]).toNat : Nat) : Int)) (fun X => Pl.r_xor8 (a := a[i].toNat) (b := b[i].toNat) (by omega) (by omega) rfl rfl hxy.symm X) hS5 rfl rfl rfl rfl rfl rfl ?_
        refine Pl.qA_bs (e := 5) (n := 1) [.int .u8 (((a[i] ^^^ b[i]).toNat : Nat) : Int)] rfl rfl rfl rfl (by kernel_rfl) (fun Y hY => Pl.Ex.trans hS5 hY) ?_
        intro N6 w6 hE6 hN_N6 k_N6_0
        have z_N6 := Pl.Cb.lt k_N6_0
        have sz6 := Pl.Ex.size hE6
        have hS6 := Pl.Ex.trans hS5 hE6
        have r2 := Gy.ex hG2 (Pl.Ex.trans hE5 hE6)
        have f7 := Gy.ex hG1 (Pl.Ex.trans hE5 hE6)
        refine Pl.qA_gr2 (bytes := 1) (z := .int .u8 0) (tx := 22) (news := cB [a[i] ^^^ b[i]]) f7 (By.src (By.ofCb (bs := [a[i] ^^^ b[i]]) k_N6_0 (by simp))) Tryd.underlying22 (by kernel_rfl) rfl (fun _ _ => trivial) (fun _ _ => trivial) (by simp [zx]; omega) (by decide) (Pl.Ex.size (Pl.Ex.trans hE4 (Pl.Ex.trans hE5 hE6))) rfl rfl rfl rfl rfl rfl (fun Y hY => Pl.Ex.grown hS6 hY (fun k hk => (Pl.Gr.lies f7 k hk).1)) ?_
        intro v1_ w7 g7 hg7 ho7
        have hE7 := Pl.Ex.grown (Pl.Ex.trans hE4 (Pl.Ex.trans hE5 hE6)) hg7 (fun k hk => (Pl.Gr.lies f7 k hk).1)
        have sz7 := Pl.Ex.size hE7
        replace g7 := Gy.app g7
        rw [zx_snoc a b (by omega) hib] at g7
        have hS7 := hE7
        have q2 : Gy w7 w.heap.size v2 (List.replicate i 0) := Pl.Gr.kept r2 hg7 hD.kept
        have hD1 : Ds v1_ v2 := hD.new ho7 (fun g hh => (Pl.Gr.lies r2 g hh).2)
        refine Pl.qA_go hS7 rfl ?_
        refine Pl.pA_end ?_
        repeat refine Pl.V_seq ?_
        refine Pl.V_region (by kernel_rfl) ?_
        refine Pl.qA_go trivial rfl ?_
        refine Pl.qA_bs (e := 5) (n := 1) [.int .u8 0] rfl rfl rfl rfl (by kernel_rfl) (fun Y hY => trivial) ?_
        intro N8 w8 hE8 hN_N8 k_N8_0
        have z_N8 := Pl.Cb.lt k_N8_0
        have sz8 := Pl.Ex.size hE8
        have r1 := Gy.ex g7 hE8
        have f9 := Gy.ex q2 hE8
        refine Pl.qA_gr2 (bytes := 1) (z := .int .u8 0) (tx := 22) (news := cB [0]) f9 (By.src (By.ofCb (bs := [0]) k_N8_0 (by simp))) Tryd.underlying22 (by kernel_rfl) rfl (fun _ _ => trivial) (fun _ _ => trivial) (by simp [zx]; omega) (by decide) (Pl.Ex.size (Pl.Ex.trans hE7 hE8)) rfl rfl rfl rfl rfl rfl (fun _ _ => trivial) ?_
        intro v2_ w9 g9 hg9 ho9
        have hE9 := Pl.Ex.grown (Pl.Ex.trans hE7 hE8) hg9 (fun k hk => (Pl.Gr.lies f9 k hk).1)
        have sz9 := Pl.Ex.size hE9
        replace g9 := Gy.app g9
        rw [rep_snoc i] at g9
        have q1 : Gy w9 w.heap.size v1_ (zx (a.take (i + 1)) (b.take (i + 1))) := Pl.Gr.kept r1 hg9 hD1.symm.kept
        have hD2 : Ds v1_ v2_ := (hD1.symm.new ho9 (fun g hh => (Pl.Gr.lies r1 g hh).2)).symm
        refine Pl.qA_go trivial rfl ?_
        refine Pl.pA_end ?_
        refine Pl.V_endblock ?_
        repeat refine Pl.V_seq ?_
        refine Pl.V_region (by kernel_rfl) ?_
        refine Pl.qA_go trivial rfl ?_
        refine Pl.qA_b (v := .int .i64 (((i + 1) : Nat) : Int)) (fun X => nb_add_i64 (a := i) (b := 1) (by omega) X) trivial rfl rfl rfl rfl rfl rfl ?_
        refine Pl.qA_go trivial rfl ?_
        refine Pl.pA_end ?_
        repeat refine Pl.V_seq ?_
        refine Pl.V_again (k' := a.length - (i + 1)) [(0, .slice (some ada) a.length c), (1, .slice (some adb) b.length d), (2, .int .u16 ((t : Nat) : Int)), (7, .bool true), (8, v1_), (9, v2_), (10, .int .i64 (((i + 1) : Nat) : Int))] (Pl.subl_cons rfl (Pl.subl_cons rfl (Pl.subl_cons rfl (Pl.subl_cons rfl (Pl.subl_cons rfl (Pl.subl_cons rfl (Pl.subl_cons rfl Pl.subl_nil))))))) (by omega) ⟨(i + 1), v1_, v2_, rfl, hE9, (by omega), (Gy.ex q1 (Pl.Ex.refl _)), (Gy.ex g9 (Pl.Ex.refl _)), hD2, rfl⟩
      · refine Pl.qA_b (v := .bool false) (fun X => Pl.r_lss (decide_eq_false (by omega)) X) trivial rfl rfl rfl rfl rfl rfl ?_
        refine Pl.pA_end ?_
        repeat refine Pl.V_seq ?_
        refine Pl.V_false rfl ?_
        repeat refine Pl.V_seq ?_
        refine Pl.V_exit ?_
        obtain rfl : i = a.length := by omega
        have hzl : (zx (a.take a.length) (b.take a.length)).length = a.length := by rw [List.take_length]; exact zx_len (by rw [List.length_take]; omega)
        repeat refine Pl.V_seq ?_
        refine Pl.V_draw (S := fun X => Pl.Ex w4 X) [(true, 0, 0), (true, 2, 1), (true, 3, 5), (true, 4, 13), (true, 5, 29), (true, 8, 61), (false, 1, 317), (false, 6, 319), (true, 7, 383), (false, 9, 511), (true, 10, 1023), (true, 11, 2047)] fo (by repeat first | exact Pl.post_panic | refine Pl.pn_block ?_ | refine Pl.pn_then ?_ | refine Pl.pn_ks ?_ | refine Pl.pn_goto ?_) (by kernel_rfl) (Pl.Ex.trans (Pl.Ex.refl _) (Pl.Ex.drew _)) ?_
        have hE5 := Pl.Ex.drew w4
        generalize w4.drew = w5 at *
        have sz5 := Pl.Ex.size hE5
        intro hS5
        refine Pl.qA_go hS5 rfl ?_
        refine Pl.qA_ln Tryd.underlying22 hS5 rfl rfl rfl rfl rfl ?_
        refine Pl.qA_sl (kl := .i64) (kh := .i64) (lo' := 0) (hi' := a.length) (s := 1) Tryd.underlying22 (by kernel_rfl) (.inl ⟨rfl, rfl⟩) (.inr ⟨_, _, rfl, rfl, rfl⟩) (by omega) (by omega) hS5 rfl rfl rfl rfl rfl ?_
        rw [cutA_zero]
        refine Pl.qA_go hS5 rfl ?_
        refine Pl.pA_call rfl rfl rfl rfl rfl (fun u X => Pl.enters Tryd.func17 (by kernel_rfl) rfl u X) ?_
        refine Calls.mono (sumE _ (By.ex ha (Pl.Ex.trans hE4 hE5)) (hg.ex (Pl.Ex.trans hE4 hE5))) ?_
        rintro e w6 ⟨rfl, hE6⟩
        have sz6 := Pl.Ex.size hE6
        have hS6 := Pl.Ex.trans hS5 hE6
        refine ⟨_, rfl, hS6, ?_⟩
        refine Pl.pA_call rfl rfl rfl rfl rfl (fun u X => Pl.enters Tryd.func17 (by kernel_rfl) rfl u X) ?_
        refine Calls.mono (sumE _ (By.ex (By.head hb (k := a.length) (by omega)) (Pl.Ex.trans hE4 (Pl.Ex.trans hE5 hE6))) (hg.ex (Pl.Ex.trans hE4 (Pl.Ex.trans hE5 hE6)))) ?_
        rintro e w7 ⟨rfl, hE7⟩
        have sz7 := Pl.Ex.size hE7
        have hS7 := Pl.Ex.trans hS6 hE7
        refine ⟨_, rfl, hS7, ?_⟩
        refine Pl.qA_b (v := .int .u32 (((T.csum a ^^^ T.csum (b.take a.length)) : Nat) : Int)) (fun X => Pl.r_xor32 (a := T.csum a) (b := T.csum (b.take a.length)) (T.csum_lt _) (T.csum_lt _) rfl rfl rfl X) hS7 rfl rfl rfl rfl rfl rfl ?_
        refine Pl.pA_call rfl rfl rfl rfl rfl (fun u X => Pl.enters Tryd.func17 (by kernel_rfl) rfl u X) ?_
        refine Calls.mono (sumE _ (Gy.by (Gy.ex hG2 (Pl.Ex.trans hE5 (Pl.Ex.trans hE6 hE7))) (by rw [List.length_replicate]; omega)) (hg.ex (Pl.Ex.trans hE4 (Pl.Ex.trans hE5 (Pl.Ex.trans hE6 hE7))))) ?_
        rintro e w8 ⟨rfl, hE8⟩
        have sz8 := Pl.Ex.size hE8
        have hS8 := Pl.Ex.trans hS7 hE8
        refine ⟨_, rfl, hS8, ?_⟩
        refine Pl.qA_b (v := .int .u32 ((((T.csum a ^^^ T.csum (b.take a.length)) ^^^ T.csum (List.replicate a.length 0)) : Nat) : Int)) (fun X => Pl.r_xor32 (a := (T.csum a ^^^ T.csum (b.take a.length))) (b := T.csum (List.replicate a.length 0)) (xor32 (T.csum_lt _) (T.csum_lt _)) (T.csum_lt _) rfl rfl rfl X) hS8 rfl rfl rfl rfl rfl rfl ?_
        refine Pl.qA_go hS8 rfl ?_
        refine Pl.pA_end ?_
        repeat refine Pl.V_seq ?_
        refine Pl.V_region (by kernel_rfl) ?_
        refine Pl.qA_go trivial rfl ?_
        refine Pl.pA_call rfl rfl rfl rfl rfl (fun u X => Pl.enters Tryd.func17 (by kernel_rfl) rfl u X) ?_
        refine Calls.mono (sumE _ (Gy.by (Gy.ex hG1 (Pl.Ex.trans hE5 (Pl.Ex.trans hE6 (Pl.Ex.trans hE7 hE8)))) (by omega)) (hg.ex (Pl.Ex.trans hE4 (Pl.Ex.trans hE5 (Pl.Ex.trans hE6 (Pl.Ex.trans hE7 hE8)))))) ?_
        rintro e w9 ⟨rfl, hE9⟩
        have sz9 := Pl.Ex.size hE9
        refine ⟨_, rfl, trivial, ?_⟩
        refine Pl.qA_go trivial rfl ?_
        refine Pl.qA_b (v := .bool false) (fun X => Pl.r_neq (Pl.n_f (by rw [csum_end a b (by omega)])) X) trivial rfl rfl rfl rfl rfl rfl ?_
        refine Pl.pA_end ?_
        repeat refine Pl.V_seq ?_
        refine Pl.V_false rfl ?_
        repeat refine Pl.V_seq ?_
        refine Pl.V_skip ?_
        repeat refine Pl.V_seq ?_
        refine Pl.V_region (by kernel_rfl) ?_
        refine Pl.qA_go trivial rfl ?_
        refine Pl.qA_ln Tryd.underlying22 trivial rfl rfl rfl rfl rfl ?_
        by_cases c6 : a.length = 0
        · refine Pl.qA_b (v := .bool true) (fun X => Pl.r_eql (Pl.e_t (by omega)) X) trivial rfl rfl rfl rfl rfl rfl ?_
          refine Pl.pA_end ?_
          repeat refine Pl.V_seq ?_
          refine Pl.V_true rfl ?_
          repeat refine Pl.V_seq ?_
          refine Pl.V_region (by kernel_rfl) ?_
          refine Pl.qA_go trivial rfl ?_
          refine Pl.pA_end ?_
          repeat refine Pl.V_seq ?_
          exact Pl.post_ret rfl rfl  (⟨rfl, (Pl.Ex.trans hE4 (Pl.Ex.trans hE5 (Pl.Ex.trans hE6 (Pl.Ex.trans hE7 (Pl.Ex.trans hE8 hE9)))))⟩)
        · refine Pl.qA_b (v := .bool false) (fun X => Pl.r_eql (Pl.e_f (by omega)) X) trivial rfl rfl rfl rfl rfl rfl ?_
          refine Pl.pA_end ?_
          repeat refine Pl.V_seq ?_
          refine Pl.V_false rfl ?_
          repeat refine Pl.V_seq ?_
          refine Pl.V_skip ?_
          repeat refine Pl.V_seq ?_
          refine Pl.V_region (by kernel_rfl) ?_
          refine Pl.qA_go trivial rfl ?_
          refine Pl.qA_cv (c := ((t : Nat) : Int)) Tryd.underlying3 (by kernel_rfl) (Pl.c_id (a := t) rfl (Pl.w64 (by omega) (by omega))) trivial rfl rfl rfl rfl rfl ?_
          refine Pl.qA_go trivial rfl ?_
          refine Pl.qA_ln Tryd.underlying22 trivial rfl rfl rfl rfl rfl ?_
          refine Pl.qA_b (v := .int .i64 (((8 * a.length) : Nat) : Int)) (fun X => nb_mul_i64 (a := 8) (b := a.length) (by omega) X) trivial rfl rfl rfl rfl rfl rfl ?_
          have hk9 := Nat.mod_lt t (show 0 < 8 * a.length by omega)
          obtain ⟨k, hk⟩ : ∃ k, t % (8 * a.length) = k := ⟨_, rfl⟩
          rw [hk] at hk9
          have hp : k / 8 < a.length := by omega
          have hm8 : k % 8 < 8 := Nat.mod_lt _ (by decide)
          refine Pl.qA_b (v := .int .i64 ((k : Nat) : Int)) (fun X => Pl.Bn.as (nb_rem_i64 (a := t) (b := (8 * a.length)) (by omega) (by omega)) (by rw [hk]) X) trivial rfl rfl rfl rfl rfl rfl ?_
          refine Pl.qA_go trivial rfl ?_
          refine Pl.pA_end ?_
          repeat refine Pl.V_seq ?_
          refine Pl.V_region (by kernel_rfl) ?_
          refine Pl.qA_bs (e := 5) (n := 0) [] rfl rfl rfl rfl (by kernel_rfl) (fun Y hY => trivial) ?_
          intro N7 w10 hE10 hN_N7 k_N7_0
          have z_N7 := Pl.Cb.lt k_N7_0
          have sz10 := Pl.Ex.size hE10
          refine Pl.qA_go trivial rfl ?_
          have f8 : Gy w10 w9.heap.size (.slice (some ⟨N7, 0, none⟩) 0 0) [] := Gy.nilCb k_N7_0 (by omega)
          refine Pl.qA_gr (bytes := 1) (z := .int .u8 0) (tx := 22) (news := cB a) f8 (By.src (By.ex ha (Pl.Ex.trans hE4 (Pl.Ex.trans hE5 (Pl.Ex.trans hE6 (Pl.Ex.trans hE7 (Pl.Ex.trans hE8 (Pl.Ex.trans hE9 hE10)))))))) Tryd.underlying22 (by kernel_rfl) rfl (fun _ _ => trivial) (fun _ _ => trivial) (by simp; omega) (by decide) (Pl.Ex.size hE10) rfl rfl rfl rfl rfl rfl (fun _ _ => trivial) ?_
          intro v3 w11 g3 hg3
          have hE11 := Pl.Ex.grown hE10 hg3 (fun k hk => (Pl.Gr.lies f8 k hk).1)
          have sz11 := Pl.Ex.size hE11
          replace g3 := Gy.app g3
          rw [List.nil_append] at g3
          obtain ⟨g8, c8, rfl, hg8b, hg8l, hcell, hfz, hset⟩ := Gy.own g3 hp
          obtain ⟨x0, hx0⟩ : ∃ x, a[k / 8].toNat = x := ⟨_, rfl⟩
          rw [hx0] at hcell
          have hx256 : x0 < 256 := by rw [← hx0]; exact a[k / 8].toNat_lt
          have h2m := two_lt8 hm8
          have hby : (UInt8.ofNat (2 ^ (k % 8))).toNat = 2 ^ (k % 8) := by rw [UInt8.toNat_ofNat']; exact Nat.mod_eq_of_lt h2m
          have hbit : UInt8.ofNat (2 ^ (k % 8)) ≠ 0 := fun e => by have e2 := congrArg UInt8.toNat e; rw [hby] at e2; have := Nat.two_pow_pos (k % 8); have e3 : 2 ^ (k % 8) = 0 := e2; omega
          have hoth := T.csum_other a (k / 8) hp _ (xor_ne8 (a := a[k / 8]) hbit)
          have hxo : (a[k / 8] ^^^ UInt8.ofNat (2 ^ (k % 8))).toNat = x0 ^^^ 2 ^ (k % 8) := by rw [UInt8.toNat_xor, hx0, hby]
          replace hset := hset (a[k / 8] ^^^ UInt8.ofNat (2 ^ (k % 8)))
          rw [hxo] at hset
          generalize a[k / 8] ^^^ UInt8.ofNat (2 ^ (k % 8)) = xb at *
          generalize hy : 2 ^ (k % 8) = y at *
          refine Pl.qA_go trivial rfl ?_
          refine Pl.pA_end ?_
          repeat refine Pl.V_seq ?_
          repeat refine Pl.V_seq ?_
          refine Pl.V_drawG (S := fun X => Pl.Ex w9 X) fo (Pl.Ex.trans hE11 (Pl.Ex.drew _)) ?_
          have hE12 := Pl.Ex.drew w11
          generalize w11.drew = w12 at *
          have sz12 := Pl.Ex.size hE12
          intro hS12
          refine Pl.G_plan [(true, 0, 0), (true, 1, 1), (true, 2, 3), (true, 3, 7), (true, 4, 15), (true, 5, 31), (true, 6, 63), (true, 8, 127), (true, 9, 383), (true, 10, 895), (false, 7, 1919), (true, 11, 2047), (true, 12, 4095), (false, 13, 8191)] 16383 0 (by repeat first | exact Pl.post_panic | refine Pl.pn_block ?_ | refine Pl.pn_then ?_ | refine Pl.pn_ks ?_ | refine Pl.pn_goto ?_) (by kernel_rfl) (by kernel_rfl) (by kernel_rfl) ?_
          refine Pl.qA_go hS12 rfl ?_
          refine Pl.qA_b (v := .int .i64 (((k / 8) : Nat) : Int)) (fun X => nb_quo_i64 (a := k) (b := 8) (by omega) (by omega) X) hS12 rfl rfl rfl rfl rfl rfl ?_
          refine Pl.qA_go hS12 rfl ?_
          refine Pl.qA_b (v := .int .i64 (((k / 8) : Nat) : Int)) (fun X => nb_quo_i64 (a := k) (b := 8) (by omega) (by omega) X) hS12 rfl rfl rfl rfl rfl rfl ?_
          refine Pl.qA_ix (s := 1) (j := (k / 8)) Tryd.underlying22 (by kernel_rfl) rfl (by omega) hS12 rfl rfl rfl rfl rfl rfl ?_
          refine Pl.qA_go hS12 rfl ?_
          refine Pl.qA_b (v := .int .i64 (((k % 8) : Nat) : Int)) (fun X => nb_rem_i64 (a := k) (b := 8) (by omega) (by omega) X) hS12 rfl rfl rfl rfl rfl rfl ?_
          refine Pl.qA_b (v := .int .u8 ((y : Nat) : Int)) (fun X => nb_shl8y hm8 hy X) hS12 rfl rfl rfl rfl rfl rfl ?_
          refine Pl.qA_lcw (v := .int .u8 ((x0 : Nat) : Int)) Tryd.underlying5 rfl (by rw [Pl.add0]; exact (Below.cell hE12 hg8l).trans hcell) hS12 rfl rfl rfl rfl rfl ?_
          refine Pl.qA_b (v := .int .u8 (((x0 ^^^ y) : Nat) : Int)) (fun X => Pl.r_xor8 (a := x0) (b := y) (by omega) (by omega) rfl rfl rfl X) hS12 rfl rfl rfl rfl rfl rfl ?_
          refine Pl.qA_ix (s := 1) (j := (k / 8)) Tryd.underlying22 (by kernel_rfl) rfl (by omega) hS12 rfl rfl rfl rfl rfl rfl ?_
          have hxr := hE12
          have g9 := Gy.ex g3 hxr
          obtain ⟨g9x, c9, e9, hg9b, hg9l, hcell9, hfz9, hset9⟩ := Gy.own g9 hp
          cases e9
          replace hset9 := hset9 xb
          rw [hxo] at hset9
          have hXs := Pl.Xs.set w12 g8 (k / 8) (.int .u8 ((x0 ^^^ y : Nat) : Int))
          refine Pl.qA_store rfl rfl rfl rfl rfl rfl (Pl.run_st (by kernel_rfl) rfl rfl (by rw [Pl.add0]; exact hcell9) (by rw [Pl.add0]; exact hfz9)) (by rw [Pl.add0]; exact Pl.Ex.xs (Pl.Ex.trans hE11 hE12) hXs (by omega)) ?_
          rw [Pl.add0]
          generalize w12.setCell ⟨g8, k / 8, none⟩ (.int .u8 ((x0 ^^^ y : Nat) : Int)) = w13 at *
          have hE13 := Pl.Ex.xs (Pl.Ex.trans hE11 hE12) hXs (by omega)
          have sz13 := Pl.Ex.size hE13
          have hS13 := hE13
          refine Pl.pA_end ?_
          refine Pl.G_V (by kernel_rfl) ?_
          repeat refine Pl.V_seq ?_
          refine Pl.V_region (by kernel_rfl) ?_
          refine Pl.qA_go trivial rfl ?_
          refine Pl.pA_call rfl rfl rfl rfl rfl (fun u X => Pl.enters Tryd.func17 (by kernel_rfl) rfl u X) ?_
          refine Calls.mono (sumE _ (Gy.by (Gy.ex hset9 (Pl.Ex.refl _)) (by rw [List.length_set]; omega)) (hg.ex (Pl.Ex.trans hE4 (Pl.Ex.trans hE5 (Pl.Ex.trans hE6 (Pl.Ex.trans hE7 (Pl.Ex.trans hE8 (Pl.Ex.trans hE9 hE13)))))))) ?_
          rintro e w14 ⟨rfl, hE14⟩
          have sz14 := Pl.Ex.size hE14
          refine ⟨_, rfl, trivial, ?_⟩
          refine Pl.qA_go trivial rfl ?_
          refine Pl.pA_call rfl rfl rfl rfl rfl (fun u X => Pl.enters Tryd.func17 (by kernel_rfl) rfl u X) ?_
          refine Calls.mono (sumE _ (By.ex ha (Pl.Ex.trans hE4 (Pl.Ex.trans hE5 (Pl.Ex.trans hE6 (Pl.Ex.trans hE7 (Pl.Ex.trans hE8 (Pl.Ex.trans hE9 (Pl.Ex.trans hE13 hE14)))))))) (hg.ex (Pl.Ex.trans hE4 (Pl.Ex.trans hE5 (Pl.Ex.trans hE6 (Pl.Ex.trans hE7 (Pl.Ex.trans hE8 (Pl.Ex.trans hE9 (Pl.Ex.trans hE13 hE14))))))))) ?_
          rintro e w15 ⟨rfl, hE15⟩
          have sz15 := Pl.Ex.size hE15
          refine ⟨_, rfl, trivial, ?_⟩
          refine Pl.qA_b (v := .bool true) (fun X => Pl.r_neq (Pl.n_t (by intro e9; exact hoth (by omega))) X) trivial rfl rfl rfl rfl rfl rfl ?_
          refine Pl.qA_go trivial rfl ?_
          refine Pl.pA_end ?_
          repeat refine Pl.V_seq ?_
          exact Pl.post_ret rfl rfl  (⟨rfl, (Pl.Ex.trans hE4 (Pl.Ex.trans hE5 (Pl.Ex.trans hE6 (Pl.Ex.trans hE7 (Pl.Ex.trans hE8 (Pl.Ex.trans hE9 (Pl.Ex.trans hE13 (Pl.Ex.trans hE14 hE15))))))))⟩)
end Go.Proofs.YtmioaeaobefphaaDoor
/- Proved: the statement StoreSums. -/
namespace Go.Proofs.YtmioaeaobefphaaDoor
open Go.ChangeShapes Go.WideShapes Go.ChangeAt Go.RowKit
set_option linter.unusedVariables false
set_option maxHeartbeats 2000000

set_option maxRecDepth 100000 in
theorem lifted_StoreSums (os : Os) (started : os.Started) (H : Type) (enc : TypeId × Value → H) :
    ReturnsInHanded {} Tryd.checked os 10 .any (fun w args => (Rows.storeSumsSpec.pre enc Tryd.prog Tryd.f10 [] false w args ∧ laidMetH Tryd.prog laidV w) ∧ sizedMet enc Tryd.prog Tryd.f10 (OpenSpec.ofChange Rows.storeSumsSpec) false w args)
      (Rows.storeSumsSpec.post enc Tryd.prog Tryd.f10 false true false false) := by
  refine returnsInHanded_of_change_and (C := Tryd.checked) (X := fun w _ => laidMetH Tryd.prog laidV w) (fun _ _ _ hh h => h.of_heap hh) own started (by kernel_rfl) Tryd.func10
    (ChangeSpec.witness_shaped (enc := enc) (C := Tryd.checked) (os := os) (X := fun w _ => laidMetH Tryd.prog laidV w) false (World.doorLaid Tryd.prog 400 os) #[.slice none 0 0, .slice none 0 0, .int .u16 0] 8 rfl (World.shaped_of_RefB (by kernel_rfl) (by kernel_rfl)) (by kernel_rfl) (by kernel_rfl) (by kernel_rfl) (door_met os _)) ?_
  intro W base args ds gs before hval0 hW _ _ hL _
  have hval : ∀ (j : Nat) t v, Tryd.f10.params[j]? = some t → args[j]? = some v → Value.okWide Tryd.prog W .any base t v := hval0
  have hW' := hW
  obtain ⟨p, q, hA0, hV, rfl, hfz, hnd⟩ := hW
  have hlt : ∀ x ∈ p ++ q, x.block < W.heap.size := fun x hx => hW'.lt x hx
  have hA : DataW.TrodAll enc Tryd.prog W 0 (fun _ => true) true Tryd.f10.params.toList args.toList ds p := hA0
  rw [Tryd.params10] at hA hval
  clear hA0 hval0
  obtain ⟨v0, vs0, d0, ds0, p0, q0, hargs0, rfl, rfl, h0, r0⟩ := trodAll_cons hA
  obtain ⟨v1, vs1, d1, ds1, p1, q1, hargs1, rfl, rfl, h1, r1⟩ := trodAll_cons r0
  obtain ⟨v2, vs2, d2, ds2, p2, q2, hargs2, rfl, rfl, h2, r2⟩ := trodAll_cons r1
  obtain ⟨hn1, rfl, rfl⟩ := trodAll_nil r2
  subst hn1
  subst hargs2
  subst hargs1
  obtain rfl : args = #[v0, v1, v2] := by cases args; simp_all
  obtain ⟨rfl, rfl⟩ := trodVars_none hV
  obtain ⟨bs0, u0⟩ := open_bytes (hval 0 22 v0 rfl rfl) h0 (fun x hx => hlt x (by simp [hx]))
  obtain ⟨bs1, u1⟩ := open_bytes (hval 1 22 v1 rfl rfl) h1 (fun x hx => hlt x (by simp [hx]))
  obtain ⟨z2, rfl, rfl, rfl, hz2⟩ := open_int Tryd.underlying41 (hval 2 41 v2 rfl rfl) h2
  have hb2 := bounds_u16 hz2
  obtain ⟨n2, rfl⟩ := Int.eq_ofNat_of_zero_le (show 0 ≤ z2 by omega)
  refine (StoreSums_walk W u0 u1 n2 (by omega) (gl_of_laid hL)).mono fun e W' ⟨he, hB⟩ => ?_
  subst he
  exact ⟨_, rfl, law_post hW' rfl (by rw [Tryd.params10]; decide +kernel) rfl rfl rfl rfl hB⟩

theorem storeSums_said : Rows.StoreSumsSaid :=
  OpenClaim.holds_of_wide 10 Tryd.f10 rfl rfl rfl rfl rfl rfl rfl ⟨rfl, rfl, rfl, rfl, rfl⟩ rfl rfl rfl rfl rfl (by kernel_rfl) Tryd.func10 (by kernel_rfl)
    (of_decide_eq_true (by kernel_rfl)) (by unfold Func.isWrapper; first | (rw [if_pos (by decide +kernel)]; kernel_rfl) | (rw [if_neg (by decide +kernel)]; exact ⟨rfl, rfl⟩))
    (fun os started H enc _ => lifted_StoreSums os started H enc)
/-- The statement: the card, tied. -/
theorem storeSums_holds : Rows.StoreSumsCardSaid :=
  Claim7.holds_tied_plain_at .later [] [.handle, .data] true Rows.storeSumsCard.stood.harness true
    storeSums_said (fun _ h => by cases h) (by kernel_rfl) (fun _ h => by cases h) storeSums_row_tie rfl ⟨rfl, rfl⟩ (by kernel_rfl) rfl
    (fun f fn hf hfn => by
      obtain rfl : f = 10 := Option.some.inj ((show Tryd.prog.funcNamed "ziggurat/zigguratlaw30.StoreSums" = some 10 by kernel_rfl).symm.trans hf) |>.symm
      obtain rfl : fn = Tryd.f10 := (Option.some.inj (Tryd.func10.symm.trans hfn)).symm
      exact ⟨by kernel_rfl, fun j t ht => by
        rw [Tryd.params10] at ht
        have hm : t ∈ [22, 22, 41] := by simpa using Array.mem_of_getElem? ht
        have hall : ([22, 22, 41].all fun u => !Tryd.prog.wantsStandIn u) = true := by kernel_rfl
        exact (show Tryd.prog.wantsStandIn t = false by simpa using List.all_eq_true.1 hall t hm)⟩)
    (by kernel_rfl)
end Go.Proofs.YtmioaeaobefphaaDoor
