/- nat.Sub. -/
import Derived.Test.YtdpmbgomcjnohaaGreatDoorBai
import Derived.Test.YtdpmbgomcjnohaaGreatDoorBag
import Derived.Test.YtdpmbgomcjnohaaGreatDoorBae

namespace Go.Proofs.YtdpmbgomcjnohaaGreatDoor
open Go.RowKit Go.Shelf
set_option linter.unusedVariables false
attribute [local go_sem] Oper.semAt_some
attribute [local go_sem ↓] fD
attribute [local go_sem] bL
set_option maxRecDepth 100000 in
set_option maxHeartbeats 4000000 in
theorem Yq (w:World) (v u:Value) (n m:Nat) (xs ys:List Nat) (hxs:limbs n=xs) (hys:limbs m=ys) (h:U w v xs) (g:U w u ys) (hl:ys.length≤xs.length) (hle:m≤n) (hm:xs.length≤1000000000) :
  CallsIn Fence.wide 4 Tryz.prog 106 #[v,u] w fun e w'=>(∃ z,e = .returned (.tuple #[z,.bool true])∧Un w' z (n-m))∧Below w.heap.size w w':=by
 obtain ⟨A,c,rfl,⟨hc,_⟩,hx,hr⟩:=id h
 obtain ⟨A2,c2,rfl,⟨hc2,_⟩,hx2,hr2⟩:=id g
 clear hr hr2
 have hcm:decide (bZ n m<0)=false:=by
  rw [decide_eq_false_iff_not]
  unfold bZ
  split
  · omega
  · split<;>omega
 have hvx:val xs=n:=by rw [← hxs,aH]
 have hvy:val ys=m:=by rw [← hys,aH]
 have Li:=yY w _ _ n m (by rw [Un,hxs];exact h) (by rw [Un,hys];exact g)
 have HXS:=Lib.hid hvx
 have HYS:=Lib.hid hvy
 have HLE:=Lib.hid hle
 have HL:=Lib.hid hl
 clear hl hle hvx hvy hxs hys
 obtain ⟨i0,hi,hz0,hz1,hz2⟩:=info_parts info67
 refine callsIn_of_wp_marks Tryz.func106 rfl trivial ?_ rfl
 simp only [Tryz.ntmps106,List.size_toArray,List.length_cons,List.length_nil,Nat.reduceAdd,Nat.reduceSub,Array.replicate_succ,Array.replicate_zero,List.push_toArray,List.append_toArray,List.nil_append,List.cons_append]
 gi_wp2_with (fail)
 refine ⟨trivial,?_⟩
 refine (callsIn_wide.2 Li).mono ?_
 rintro e wc ⟨rfl,YJ⟩
 have h':=h.below YJ
 have g':=g.below YJ
 gi_wp2_with (first | (gi_at_make;refine wpListIn_make_own _ rfl _ _ 22 rfl wc.heap.size 67 i0 (.int .u32 0) 1 Tryz.underlying22 hi hz0 hz1 _ _ _ xs.length rfl rfl (by omega) (by rw [hz2];omega) (by unfold maxLen;omega) (Nat.le_refl _) ?_;intro w1 hown hgrow) | (refine ⟨trivial,?_⟩;gi_at_call 132;refine (callsIn_wide.2 (Jl _)).mono ?_;rintro e w' ⟨rfl,rfl⟩) | (refine ⟨trivial,?_⟩;gi_at_call 133;refine (callsIn_wide.2 (tQ _ _ _ _ _ _ _)).mono ?_;rintro e w' ⟨rfl,rfl⟩))
 obtain ⟨B,hB⟩:∃ B,w1.heap.size=B:=⟨_,rfl⟩
 obtain ⟨W0,hW0⟩:∃ W0,(((((w1.alloc (.cells #[.slice (some ⟨wc.heap.size,0,none⟩) 0 xs.length] 22)).alloc (.cells #[.int .u32 0] 67)).alloc (.cells #[.func (.func 144) #[] #[.pointer (some ⟨w1.heap.size+1,0,none⟩)]] 123)).alloc (.cells #[.slice A xs.length c] 22)).alloc (.cells #[.slice A2 ys.length c2] 22))=W0:=⟨_,rfl⟩
 have hB1:Below wc.heap.size wc w1:=(Below.refl _ _).grown hgrow (Nat.le_refl _) (fun _ h=>by cases h)
 have SE:=hB1.size
 have hB0:Below wc.heap.size wc W0:=by
  rw [← hW0]
  exact ((((hB1.alloc (by omega) _).alloc (by simp;omega) _).alloc (by simp;omega) _).alloc (by simp;omega) _).alloc (by simp;omega) _
 have hsz:W0.heap.size=B+5:=by rw [← hW0,← hB];simp
 have b0:Boxed W0 B 22 (.slice (some ⟨wc.heap.size,0,none⟩) 0 xs.length):=by
  rw [← hW0,← hB];exact ((((Boxed.new w1 22 _).alloc _).alloc _).alloc _).alloc _
 have b1:Boxed W0 (B+1) 67 (.int .u32 0):=by
  rw [← hW0,← hB]
  have:=((((Boxed.new (w1.alloc (.cells #[.slice (some ⟨wc.heap.size,0,none⟩) 0 xs.length] 22)) 67 (.int .u32 0)).alloc (.cells #[.func (.func 144) #[] #[.pointer (some ⟨w1.heap.size+1,0,none⟩)]] 123)).alloc (.cells #[.slice A xs.length c] 22)).alloc (.cells #[.slice A2 ys.length c2] 22))
  simpa using this
 have b2:Boxed W0 (B+2) 123 (.func (.func 144) #[] #[.pointer (some ⟨B+1,0,none⟩)]):=by
  rw [← hW0,← hB]
  have:=(((Boxed.new ((w1.alloc (.cells #[.slice (some ⟨wc.heap.size,0,none⟩) 0 xs.length] 22)).alloc (.cells #[.int .u32 0] 67)) 123 (.func (.func 144) #[] #[.pointer (some ⟨w1.heap.size+1,0,none⟩)])).alloc (.cells #[.slice A xs.length c] 22)).alloc (.cells #[.slice A2 ys.length c2] 22))
  simpa using this
 have b3:Boxed W0 (B+3) 22 (.slice A xs.length c):=by
  rw [← hW0,← hB]
  have:=((Boxed.new (((w1.alloc (.cells #[.slice (some ⟨wc.heap.size,0,none⟩) 0 xs.length] 22)).alloc (.cells #[.int .u32 0] 67)).alloc (.cells #[.func (.func 144) #[] #[.pointer (some ⟨w1.heap.size+1,0,none⟩)]] 123)) 22 (.slice A xs.length c)).alloc (.cells #[.slice A2 ys.length c2] 22))
  simpa using this
 have b4:Boxed W0 (B+4) 22 (.slice A2 ys.length c2):=by
  rw [← hW0,← hB]
  have:=(Boxed.new ((((w1.alloc (.cells #[.slice (some ⟨wc.heap.size,0,none⟩) 0 xs.length] 22)).alloc (.cells #[.int .u32 0] 67)).alloc (.cells #[.func (.func 144) #[] #[.pointer (some ⟨w1.heap.size+1,0,none⟩)]] 123)).alloc (.cells #[.slice A xs.length c] 22)) 22 (.slice A2 ys.length c2))
  simpa using this
 have hown0:Own W0 wc.heap.size (.slice (some ⟨wc.heap.size,0,none⟩) ([]:List Nat).length xs.length) []:=by
  rw [← hW0];exact ((((World.ownsRow.alloc hown _).alloc _).alloc _).alloc _).alloc _
 have hS0:xQ wc B wc.heap.size xs.length 144 [] 0 W0:=⟨b0,hown0,b1,b2,hB0,by omega⟩
 have hBw:wc.heap.size<B:=by have:=(World.ownsRow.lt hown wc.heap.size rfl).2;omega
 have hWr:Boxed W0 B 22 (.slice (some ⟨wc.heap.size,0,none⟩) 0 xs.length):=b0
 rw [hW0]
 rw [hB]
 clear hW0 b0 b1 b2 hown0 hown hgrow hB1 SE hWr hB
 refine wpIn_rangeFunc_ownG rfl (by omega) (gf := 146) (lb:=#[.pointer (some ⟨B+4,0,none⟩),.pointer (some ⟨B+3,0,none⟩)]) rfl trivial (enters_of Tryz.func146 (by kernel_rfl) rfl)
  (tT (B+3) (B+4) _ _ xs ys wc W0 hB0 HL.out (by omega) (by omega) b3 b4 h' g') Lf.trans (SC (by omega) (by omega) (by omega)) (Below.refl _ _) (fun _=>rfl)
  (fun pre W=>∃ o cy,Hid (rq pre o cy)∧xQ wc B wc.heap.size xs.length 144 o cy W)
  (fun c pre W=>False)
  (fun s X Y row hs hg hr=>by obtain ⟨o,cy,ha,hs⟩:=hs;exact ⟨o,cy,ha,hs.grown hg (by omega) hr⟩)
  (fun c s X Y row hs hg hr=>hs)
  ⟨[],0,rq.start,hS0⟩
  (fun x=>{ tmps:=#[.slice A xs.length c,.slice A2 ys.length c2,undef,undef,.slice none 0 0,.bool false,.pointer (some ⟨B,0,none⟩),.pointer (some ⟨B+1+1,0,none⟩),.int .u32 (x.1.1:Int),.int .u32 (x.1.2:Int),.slice A xs.length c,.slice A2 ys.length c2,.int .i64 (bZ n m),.bool false,.slice A xs.length c,.int .i64 (xs.length:Int),.slice (some ⟨wc.heap.size,0,none⟩) 0 xs.length,.func (.func 144) #[] #[.pointer (some ⟨B+1,0,none⟩)],.slice A xs.length c,.slice A2 ys.length c2,.func (.func 146) #[] #[.pointer (some ⟨B+1+1+1+1,0,none⟩),.pointer (some ⟨B+1+1+1,0,none⟩)],.int .u32 (x.1.1:Int),.int .u32 (x.1.2:Int),undef,undef,undef,undef,undef,undef,undef,undef,undef],defers:=[] }) ?assign ?body ?done ?stop
 case assign =>
  intro l x W K hK
  gi_wp2
  exact hK
 case body =>
  rintro l pre x W ⟨o,cy,HA,hS⟩ hpl
  have hb0:=hS.box.cell
  have hf0:=hS.box.frozen
  have hb1:=hS.Lg.cell
  have hf1:=hS.Lg.frozen
  have hb2:=hS.Te.cell
  have hmx:Tryz.prog.follows .mixedOrders=true:=by kernel_rfl
  have hcy:=HA.out.carry
  have hlen:=HA.out.len
  have hol:o.length+1≤xs.length:=by omega
  have HA2:=Lib.hid (HA.out.step x)
  have aeJ:=xP x.1.1 x.1.2 cy
  obtain ⟨d,hd⟩:∃ d,uI x.1.1 x.1.2 cy=d:=⟨_,rfl⟩
  obtain ⟨cz,hcz⟩:∃ d,uJ x.1.1 x.1.2 cy=d:=⟨_,rfl⟩
  have hcall:=Gg W.drew x.1.1 x.1.2 cy (B+1) x.2.1 x.2.2 hcy hb1 hf1
  rw [hd,hcz] at hcall HA2
  obtain ⟨W1,hW1⟩:∃ W1,W.drew.setCell ⟨B+1,0,none⟩ (.int .u32 (cz:Nat))=W1:=⟨_,rfl⟩
  rw [hW1] at hcall
  have hsz1:W1.heap.size=W.heap.size:=by rw [← hW1];simp [World.setCell]
  have hg1:W.grownBy W1 (some (B+1)):=by rw [← hW1];have hq:=grownBy_setCell' W.drew (B+1) (.int .u32 (cz:Nat));exact ⟨hq.os,hq.tape,hq.output,hq.size,hq.block⟩
  have hown1:(W1.alloc (.cells #[.int .u32 (d:Nat)] 67)).ownsRow wc.heap.size 67 1 (.slice (some ⟨wc.heap.size,0,none⟩) o.length xs.length) o.length (qy o) :=
   World.ownsRow.alloc (World.ownsRow.kept hS.own hg1 (.inr (by simp [Value.ownBlock];omega))) _
  have hx0:=hS.box.kept hg1 (by intro e;injection e with e;omega)
  have hx2:=hS.Te.kept hg1 (by intro e;injection e with e;omega)
  have hx1:Boxed W1 (B+1) 67 (.int .u32 (cz:Nat)):=by rw [← hW1];exact Boxed.set (W:=W.drew) _ hS.Lg
  have hxb:Below wc.heap.size wc W1:=hS.Dp.grown hg1 hS.Dp.size (fun k e=>by injection e with e;omega)
  have hxW:Below wc.heap.size W W1:=(Below.refl _ W).grown hg1 hS.Dp.size (fun k e=>by injection e with e;omega)
  have hko:KeepsOthers W W1:=by rw [← hW1];exact (KeepsOthers.drew W).trans (KeepsOthers.setCell _ _ _)
  obtain ⟨W2,hrun,hown2,hgrow2⟩:=run_append_fits (P:=Tryz.prog) (W1.alloc (.cells #[.int .u32 (d:Nat)] 67)) wc.heap.size 22 22 67 i0 1 Tryz.underlying22 hi hz1 wc.heap.size o.length xs.length (qy o) hown1
   ⟨W1.heap.size,0,none⟩ 1 1 [.int .u32 (d:Nat)] rfl (by intro j u hj;cases j with | zero=>simp at hj;subst hj;simp [Addr.add] | succ j=>simp at hj) (by simp [Value.oneCell']) hol
  have hy0:=(hx0.alloc (.cells #[.int .u32 (d:Nat)] 67)).kept hgrow2 (by intro e;injection e with e;omega)
  have hy1:=(hx1.alloc (.cells #[.int .u32 (d:Nat)] 67)).kept hgrow2 (by intro e;injection e with e;omega)
  have hy2:=(hx2.alloc (.cells #[.int .u32 (d:Nat)] 67)).kept hgrow2 (by intro e;injection e with e;omega)
  have hyb:Below wc.heap.size wc W2:=(hxb.alloc hxb.size _).grown hgrow2 (by have:=hxb.size;rw [World.size_alloc];omega) (fun k e=>by injection e with e;omega)
  have hyW:Below wc.heap.size W W2:=(hxW.alloc hxb.size _).grown hgrow2 (by have:=hxb.size;rw [World.size_alloc];omega) (fun k e=>by injection e with e;omega)
  have hkeep:∀ k,k<W.heap.size→k≠B+1→k≠wc.heap.size→W2.heap[k]?=W.heap[k]?:=fun k h1 h2 h3 =>
   ((hgrow2.block k (by rw [World.size_alloc];omega) (fun e=>h3 (by injection e))).trans (Below.heap_alloc _ _ k (by omega))).trans (hg1.block k h1 (fun e=>h2 (by injection e)))
  have zR:KeepsOthers W W2:=(hko.trans (KeepsOthers.alloc _ _)).trans (KeepsOthers.of_grownBy hgrow2 fun j ob ej hj=>by
   cases ej
   rcases hown1.2 with ⟨h',_⟩ | ⟨g',cap',cur,h',_,hg,_⟩
   · cases h'
   · cases h';rw [hg] at hj;cases hj;rfl)
  have aa6:=hy0.cell
  have Vn:=hx0.cell
  have Vo:=(hx0.alloc (.cells #[.int .u32 (d:Nat)] 67)).cell
  have aa7:=hy0.frozen
  have HW1:=Lib.hid hsz1
  obtain ⟨ht1,ht2,ht3⟩:=eD hrun
  clear hrun hW1 hsz1 hd hcz hg1 hlen aeJ
  gi_wp2
  gi_region_with_o ((refine ⟨trivial,?_⟩;gi_at_call 144;refine (CallsIn.inRound l (callsIn_wide.2 hcall)).mono ?_;rintro e w' ⟨rfl,rfl⟩))
  all_goals gi_wp2
  all_goals
   have Vp:=hS.YI
   have aa8:=zR.size
   have hset:=grownBy_setCell' W2 B (.slice (some ⟨wc.heap.size,0,none⟩) (o.length+1) xs.length)
   have hrow:(W2.setCell ⟨B,0,none⟩ (.slice (some ⟨wc.heap.size,0,none⟩) (o.length+1) xs.length)).ownsRow wc.heap.size 67 1 (.slice (some ⟨wc.heap.size,0,none⟩) (o.length+1) xs.length) (o.length+1) (qy o++[.int .u32 (d:Nat)]) :=
    World.ownsRow.kept hown2 hset (.inr (by simp only [Value.ownBlock];intro e;injection e with e;omega))
   refine ⟨(zR.trans (KeepsOthers.setCell _ _ _)).from _,⟨hyW.setCell (p:=⟨B,0,none⟩) (Nat.le_of_lt hBw) _,?_,?_⟩,o++[d],cz,HA2.out,?_,?_,hy1.other (by omega) _,hy2.other (by omega) _,hyb.setCell (p:=⟨B,0,none⟩) (Nat.le_of_lt hBw) _,?_⟩
   · exact (hset.block (B+3) (by omega) (fun e=>by injection e with e;omega)).trans (hkeep (B+3) (by omega) (by omega) (by omega))
   · exact (hset.block (B+4) (by omega) (fun e=>by injection e with e;omega)).trans (hkeep (B+4) (by omega) (by omega) (by omega))
   · rw [List.length_append];exact hy0.set _
   · unfold Own;rw [lS,List.length_append];exact hrow
   · have:=hset.size;omega
 case done =>
  rintro D l W hD hl ⟨o,cy,HA,hS⟩ hK
  have hb0:=hS.box.cell
  have hdone:=HA.out.done hl HL.out (by rw [HXS.out,HYS.out];exact HLE.out)
  rw [HXS.out,HYS.out] at hdone
  have hlen:=HA.out.len
  have hol:o.length=xs.length:=by rw [hlen];have:=congrArg List.length hl;simpa [iV] using this
  have hu:U W (.slice (some ⟨wc.heap.size,0,none⟩) o.length xs.length) o:=Own.xX hS.own HA.out.lt (by omega)
  have HD:=Lib.hid hdone
  have HB:=Lib.hid (YJ.trans (hS.Dp.mono YJ.size))
  clear hdone hol hl hlen
  gi_wp2_with (refine ⟨trivial,?_⟩;gi_at_call 125;refine (callsIn_wide.2 (kK _ _ _ hu)).mono ?_;rintro e w' ⟨⟨z,rfl,hz⟩,rfl⟩)
  rw [HD.out] at hz
  refine ⟨by simp,.inl ⟨_,_,rfl,run_takeDeferred hK,?_⟩⟩
  refine ⟨.tuple #[z,.bool true],by simp [results,Tryz.f106,go_sem],⟨_,rfl,hz.put hK rfl _⟩,HB.out.trans (belowK_b (w:=w) (Nat.le_refl _) _ D _ _ (by have:=YJ.size;omega) hK rfl rfl)⟩
 case stop =>
  rintro D cc pre W hD _ h _
  exact h.elim
theorem Lj (w:World) (v u:Value) (n m:Nat) (h:Un w v n) (g:Un w u m) (hm:(limbs n).length≤1000000000) :
  Calls Tryz.prog 106 #[v,u] w fun e w'=>(∃ z,e = .returned (.tuple #[z,.bool (decide (m≤n))])∧Un w' z (n-m))∧Below w.heap.size w w':=by
 by_cases hle:m≤n
 · rw [decide_eq_true hle]
   exact callsIn_wide.1 (Yq w v u n m _ _ rfl rfl h g (fC hle) hle hm)
 · rw [decide_eq_false hle]
   have hcm:decide (bZ n m<0)=true:=by rw [kV (by omega)];rfl
   have hz:Hid (n-m=0):=by rw [Hid];omega
   have Li:=yY w _ _ n m h g
   clear hle
   go_enter Tryz.func106,Tryz.ntmps106
   go_wp2_with (go_at_call 111;refine Li.mono ?_;rintro e wc ⟨rfl,YJ⟩)
   go_ret2
   exact ⟨⟨_,rfl,by rw [hz.out,Un,aX];exact U.uW _ _ _⟩,by assumption⟩
end Go.Proofs.YtdpmbgomcjnohaaGreatDoor
/- The document's own Make and Made. -/
namespace Go.Proofs.YtdpmbgomcjnohaaGreatDoor
open Go.RowKit
set_option linter.unusedVariables false
set_option maxHeartbeats 400000
set_option maxRecDepth 100000
attribute [local go_sem ↓] fD
attribute [local go_sem] bL
theorem dB (w:World) (v:Value) (xs:List Nat) (h:U w v xs) (hlen:xs.length≤1000000000) :
  Calls Tryz.prog 100 #[v] w fun e w'=>(∃ u,e = .returned u∧U w' u (limbs (val xs)))∧Below w.heap.size w w':=by
 have h':=h
 obtain ⟨A,c,rfl,⟨hc,hm⟩,hx,hr⟩:=h
 go_enter Tryz.func100,Tryz.ntmps100
 go_wp2
 go_loop [3] (fun n=>∃ k:Nat,k≤xs.length∧n = .int .i64 k∧Hid (∀ j,k≤j→j<xs.length→lb xs j=0)) (fun n=>(intOf n).toNat)
 case atStart=>exact ⟨xs.length,Nat.le_refl _,rfl,fun j h1 h2=>by omega⟩
 case round =>
  obtain ⟨k,hk,rfl,hz⟩:=hrel
  have hfin:(0<k→lb xs (k-1)≠0)→∃ v' w',(Builtin.append_ #[22,22] 22 #[.slice (some ⟨w.heap.size,0,none⟩) 0 0,.slice A k c]).run Tryz.prog (w.alloc (.cells #[] 67)) = .ok v' w'∧U w' v' (limbs (val xs))∧Below w.heap.size w w':=fun h2=>by
   have hB:Below w.heap.size w (w.alloc (.cells #[] 67)):=(Below.refl _ _).alloc (Nat.le_refl _) _
   have hown:Own (w.alloc (.cells #[] 67)) w.heap.size (.slice (some ⟨w.heap.size,0,none⟩) 0 0) []:=World.ownsRow_lit w #[] 0 (Nat.le_refl _) (Nat.zero_le _) rfl
   have hu:U w (.slice A k c) (xs.take k):=h'.take hk (by omega)
   have htl:(xs.take k).length=k:=by simp;omega
   obtain ⟨v',w',hrun,ho,hg⟩:=ng _ w.heap.size _ [] hown _ _ (hu.below hB) (by rw [htl];simp;omega) hB.size
   refine ⟨v',w',hrun,?_,hB.grown hg hB.size (fun j e=>by cases e;exact Nat.le_refl _)⟩
   rw [wL xs k hx hk hz.out h2]
   rw [List.nil_append] at ho
   exact ho.xX (fun x hx'=>hx x (List.mem_of_mem_take hx')) (by rw [htl];omega)
  rcases Nat.eq_zero_or_pos k with rfl | h0
  · obtain ⟨v',w',hrun,HU,HB⟩:=hfin (fun h=>absurd h (by omega))
    obtain ⟨t1,t2,t3⟩:=eD hrun
    clear hfin hrun
    go_wp2
    go_ret
    exact ⟨⟨_,rfl,HU⟩,HB⟩
  · obtain ⟨ad,rfl,hb,hcell⟩:=hr (by omega)
    have hc1:=hcell (k-1) (by omega)
    by_cases hx0:lb xs (k-1)=0
    · have ht:((((lb xs (k-1):Nat)):Int)==0)=true:=by rw [hx0];rfl
      have HX:=Lib.hid hx0
      clear hx0 hfin
      go_wp2
      go_round
      case rel=>exact ⟨k-1,by omega,by go_num,fun j h1 h2=>by
       rcases Nat.lt_or_ge j k with h3 | h3
       · have:j=k-1:=by omega
         subst this;exact HX.out
       · exact hz.out j h3 h2⟩
      case measure=>simp [intOf];omega
    · have ht:((((lb xs (k-1):Nat)):Int)==0)=false:=by rw [beq_eq_false_iff_ne];omega
      obtain ⟨v',w',hrun,HU,HB⟩:=hfin (fun _=>hx0)
      obtain ⟨t1,t2,t3⟩:=eD hrun
      clear hfin hrun hx0
      go_wp2
      go_ret
      exact ⟨⟨_,rfl,HU⟩,HB⟩
end Go.Proofs.YtdpmbgomcjnohaaGreatDoor
/- The document's own Made. -/
namespace Go.Proofs.YtdpmbgomcjnohaaGreatDoor
open Go.RowKit
set_option linter.unusedVariables false
set_option maxHeartbeats 400000
set_option maxRecDepth 100000
def dM (xs:List Nat) (k:Nat):Nat:=val (xs.take k)
theorem kX (xs:List Nat) (k:Nat) (hx:∀ x∈xs,x<4294967296):(limbs (dM xs k)).length≤k:=by
 apply je
 have:=sK (xs.take k) (fun x h=>hx x (List.mem_of_mem_take h))
 refine Nat.lt_of_lt_of_le this (Nat.pow_le_pow_right (by decide) ?_)
 rw [List.length_take];omega
end Go.Proofs.YtdpmbgomcjnohaaGreatDoor
/- The contracts in one form: whatever lay lies as it lay; the results as the callers ask for them. -/
namespace Go.Proofs.YtdpmbgomcjnohaaGreatDoor
open Go.RowKit
set_option linter.unusedVariables false
theorem Un.alloc {w:World} {v:Value} {n:Nat} (h:Un w v n) (o:Obj):Un (w.alloc o) v n:=U.alloc h o
theorem U.un {w:World} {v:Value} {xs:List Nat} {n:Nat} (h:U w v xs) (e:limbs n=xs):Un w v n:=by rw [Un,e];exact h
theorem lim {n:Nat} (xs:List Nat) (hv:val xs=n) (hx:∀ x∈xs,x<4294967296) (hl:xs≠[]→xs[xs.length-1]?.getD 0≠0):limbs n=xs:=by rw [← hv];exact yI xs hx hl
theorem JF (w:World):Un w (.slice none 0 0) 0:=by rw [Un,aX];exact U.uW _ _ _
theorem Uj (w:World) (v:Value) (xs:List Nat) (h:U w v xs) (b:Bool) (hb:eO xs=b) :
  Calls Tryz.prog 98 #[v] w fun e w'=>e = .returned (.bool b)∧Ext w w' :=
 (Jm w v xs h).mono fun e w' ⟨he,hw⟩=>⟨by rw [he,hb],by rw [← hw];exact Ext.refl w⟩
theorem EI (w:World) (v:Value) (xs:List Nat) (h:U w v xs) (n:Nat) (hn:val xs=n) :
  Calls Tryz.prog 125 #[v] w fun e w'=>∃ u,e = .returned u∧Un w' u n∧Ext w w' :=
 (kK w v xs h).mono fun e w' ⟨⟨u,he,hu⟩,hw⟩=>⟨u,he,by rw [← hw,Un,← hn];exact hu,by rw [← hw];exact Ext.refl w⟩
theorem of_B (w:World) (k:Int) (h0:0≤k) (h1:k<18446744073709551616) (n:Nat) (hn:k.toNat=n) :
  Calls Tryz.prog 141 #[.int .u64 k] w fun e w'=>∃ u,e = .returned u∧Un w' u n∧Ext w w':=by
 subst hn
 have:=Oj w k.toNat (by omega)
 rw [show ((k.toNat:Nat):Int)=k by omega] at this
 exact this.mono fun e w' ⟨⟨u,he,hu⟩,hb⟩=>⟨u,he,hu,hb⟩
theorem WB (w:World) (v:Value) (n:Nat) (h:Un w v n) (hl:(limbs n).length≤1000000000) (k:Int) (hk:((fK n:Nat):Int)=k) :
  Calls Tryz.prog 174 #[v] w fun e w'=>e = .returned (.int .i64 k)∧Ext w w' :=
 (Ll w v n h hl).mono fun e w' ⟨he,hw⟩=>⟨by rw [he,hk],by rw [← hw];exact Ext.refl w⟩
theorem Vy (w:World) (v u:Value) (n m:Nat) (h:Un w v n) (g:Un w u m) (k:Int) (hk:bZ n m=k) :
  Calls Tryz.prog 111 #[v,u] w fun e w'=>e = .returned (.int .i64 k)∧Ext w w' :=
 (yY w v u n m h g).mono fun e w' ⟨he,hw⟩=>⟨by rw [he,hk],hw⟩
theorem QE (w:World) (v u:Value) (n m:Nat) (h:Un w v n) (g:Un w u m) (hm:(limbs n).length≤1000000000) (hm2:(limbs m).length≤1000000000) (s:Nat) (hs:n+m=s) :
  Calls Tryz.prog 107 #[v,u] w fun e w'=>∃ z,e = .returned z∧Un w' z s∧Ext w w':=by
 subst hs
 have:=Lh w v u _ _ h g hm hm2
 rw [aH,aH] at this
 exact this.mono fun e w' ⟨⟨z,he,hz⟩,hb⟩=>⟨z,he,hz,hb⟩
theorem Ms (w:World) (v u:Value) (n m:Nat) (h:Un w v n) (g:Un w u m) (hm:(limbs n).length≤1000000000) (b:Bool) (hb:decide (m≤n)=b) (d:Nat) (hd:n-m=d) :
  Calls Tryz.prog 106 #[v,u] w fun e w'=>∃ z,e = .returned (.tuple #[z,.bool b])∧Un w' z d∧Ext w w':=by
 subst hd hb
 exact (Lj w v u n m h g hm).mono fun e w' ⟨⟨z,he,hz⟩,hb⟩=>⟨z,he,hz,hb⟩
theorem OZ (w:World) (v:Value) (n:Nat) (k:Int) (h:Un w v n) (hk0:0≤k) (hk1:k≤1000000000) (hl:(limbs n).length≤1000000000) (s:Nat) (hs:n*2^k.toNat=s) :
  Calls Tryz.prog 102 #[v,.int .i64 k] w fun e w'=>∃ u,e = .returned u∧Un w' u s∧Ext w w':=by
 subst hs
 exact (Ol w v n k hk0 hk1 h hl).mono fun e w' ⟨⟨u,he,hu⟩,hb⟩=>⟨u,he,hu,hb⟩
theorem O0 (w:World) (v:Value) (n:Nat) (k:Int) (h:Un w v n) (hk0:0≤k) (hk1:k≤1000000000) (hl:(limbs n).length≤1000000000) (s:Nat) (hs:n/2^k.toNat=s) :
  Calls Tryz.prog 104 #[v,.int .i64 k] w fun e w'=>∃ u,e = .returned u∧Un w' u s∧Ext w w':=by
 subst hs
 exact (Om w v n k hk0 hk1 h hl).mono fun e w' ⟨⟨u,he,hu⟩,hb⟩=>⟨u,he,hu,hb⟩
end Go.Proofs.YtdpmbgomcjnohaaGreatDoor
/- Slices of 64-bit words: read, and made by the call itself. -/
namespace Go.Proofs.YtdpmbgomcjnohaaGreatDoor
open Go.RowKit
set_option linter.unusedVariables false
set_option maxHeartbeats 400000
theorem rO:(Tryz.prog.info? 100).map (fun i=>(i.zero,i.size,i.bytes))=some (some (.int .u64 0),1,8):=by kernel_rfl
def V (g:Nat) (w:World) (v:Value) (xs:List Nat):Prop :=
 ∃ (A:Option Addr) (c:Nat),v = .slice A xs.length c∧(xs.length≤c∧xs.length≤9223372036854775807)∧(∀ x∈xs,x<18446744073709551616) ∧
  (0<xs.length→∃ ad,A=some ad∧ad.block<w.heap.size∧ad.block≠g∧∀ j,j<xs.length→w.cell? (ad.add j)=some (.int .u64 (lb xs j:Nat)))
theorem V.lim {g:Nat} {w:World} {v:Value} {xs:List Nat} (h:V g w v xs):∀ x∈xs,x<18446744073709551616:=by
 obtain ⟨A,c,rfl,hc,hx,hr⟩:=h;exact hx
theorem V.keep {g:Nat} {w w':World} {v:Value} {xs:List Nat} (h:V g w v xs) (hs:w.heap.size≤w'.heap.size) (hk:∀ p:Addr,p.block<w.heap.size→p.block≠g→w'.cell? p=w.cell? p):V g w' v xs:=by
 obtain ⟨A,c,rfl,hc,hx,hr⟩:=h
 refine ⟨A,c,rfl,hc,hx,fun h0=>?_⟩
 obtain ⟨ad,hA,hb,hne,hcell⟩:=hr h0
 exact ⟨ad,hA,by omega,hne,fun j hj=>(hk _ (by rw [aF];exact hb) (by rw [aF];exact hne)).trans (hcell j hj)⟩
theorem V.below {g:Nat} {w w':World} {v:Value} {xs:List Nat} (h:V g w v xs) (hb:Ext w w'):V g w' v xs:=h.keep hb.size fun _ hp _=>hb.cell hp
theorem V.but {g:Nat} {w w':World} {v:Value} {xs:List Nat} (h:V g w v xs) (hb:But g w w'):V g w' v xs:=h.keep hb.size fun _ hp hn=>hb.cell hp hn
theorem V.new {g g':Nat} {w:World} {v:Value} {xs:List Nat} (h:V g' w v xs) (hg:w.heap.size≤g):V g w v xs:=by
 obtain ⟨A,c,rfl,hc,hx,hr⟩:=h
 refine ⟨A,c,rfl,hc,hx,fun h0=>?_⟩
 obtain ⟨ad,hA,hb,hne,hcell⟩:=hr h0
 exact ⟨ad,hA,hb,by omega,hcell⟩
theorem V.uW (g:Nat) (w:World) (A:Option Addr) (c:Nat):V g w (.slice A 0 c) []:=⟨A,c,rfl,⟨Nat.zero_le _,Nat.zero_le _⟩,by simp,fun h=>absurd h (by simp)⟩
theorem V.take {g:Nat} {w:World} {A:Option Addr} {n c:Nat} {xs:List Nat} (h:V g w (.slice A n c) xs) {k c':Nat} (hk:k≤n) (hc':k≤c'):V g w (.slice A k c') (xs.take k):=by
 obtain ⟨A,c,hv,hc,hx,hr⟩:=h
 injection hv with h1 h2 h3
 subst h1 h2 h3
 have hlen:(xs.take k).length=k:=by simp;omega
 refine ⟨_,c',by rw [hlen],by omega,fun x hx'=>hx x (List.mem_of_mem_take hx'),fun h0=>?_⟩
 obtain ⟨ad,hA,hb,hne,hcell⟩:=hr (by omega)
 refine ⟨ad,hA,hb,hne,fun j hj=>?_⟩
 rw [hcell j (by omega),iA (by omega)]
theorem V.drop {g:Nat} {w:World} {ad:Addr} {n c:Nat} {xs:List Nat} (h:V g w (.slice (some ad) n c) xs) {k m c':Nat} (hk:k≤n) (hm:n-k=m) (hc':m≤c'):V g w (.slice (some (ad.add k)) m c') (xs.drop k):=by
 obtain ⟨A,c,hv,hc,hx,hr⟩:=h
 injection hv with h1 h2 h3
 subst h1 h2 h3
 have hlen:(xs.drop k).length=m:=by simp;omega
 refine ⟨_,c',by rw [hlen],by omega,fun x hx'=>hx x (List.mem_of_mem_drop hx'),fun h0=>?_⟩
 obtain ⟨ZU,hA,hb,hne,hcell⟩:=hr (by omega)
 injection hA with hA
 subst hA
 refine ⟨_,rfl,by rw [aF];exact hb,by rw [aF];exact hne,fun j hj=>?_⟩
 rw [addr_add_add,hcell (k+j) (by omega),Ai]
theorem V.opened {g:Nat} {w:World} {v:Value} {xs:List Nat} (h:V g w v xs) {n:Nat} (hn:xs.length=n) (h0:0<n):∃ ad c,v = .slice (some ad) n c∧n≤c∧ad.block<w.heap.size∧ad.block≠g∧∀ j,j<n→w.cell? (ad.add j)=some (.int .u64 (lb xs j:Nat)):=by
 subst hn
 obtain ⟨A,c,rfl,hc,hx,hr⟩:=h
 obtain ⟨ad,rfl,hb,hne,hcell⟩:=hr h0
 exact ⟨ad,c,rfl,hc.1,hb,hne,hcell⟩
theorem V.shape {g:Nat} {w:World} {v:Value} {xs:List Nat} (h:V g w v xs):∃ A c,v = .slice A xs.length c∧xs.length≤c:=by
 obtain ⟨A,c,rfl,hc,_⟩:=h;exact ⟨A,c,rfl,hc.1⟩
def mY (o:List Nat):List Value:=o.map fun x=>Value.int .u64 (x:Nat)
theorem dJ (o:List Nat):(mY o).length=o.length:=by simp [mY]
theorem M3 (o:List Nat) {j:Nat} (h:j<o.length):(mY o)[j]?=some (.int .u64 (lb o j:Nat)):=by
 unfold mY lb;simp [h]
theorem C8 (a b:List Nat):mY (a++b)=mY a++mY b:=by simp [mY]
theorem Vh (a:List Nat) (i x:Nat):mY (a.set i x)=(mY a).set i (.int .u64 (x:Nat)):=by simp [mY,List.map_set]
theorem EA (k:Nat):mY (List.replicate k 0)=List.replicate k (.int .u64 0):=by simp [mY]
def Ow (w:World) (base:Nat) (v:Value) (o:List Nat):Prop:=w.ownsRow base 100 1 v o.length (mY o)
theorem Ow.caps {w:World} {base g n c:Nat} {o:List Nat} (h:Ow w base (.slice (some ⟨g,0,none⟩) n c) o):n=o.length∧n≤c∧c≤maxLen:=by
 rcases h.2 with ⟨h1,_⟩ | ⟨g',cap,cur,h1,hg,hh,h2,h3,h4,h5⟩
 · cases h1
 · injection h1 with e1 e2 e3
   subst e2 e3
   exact ⟨rfl,h2,h3⟩
theorem Ow.block {w:World} {base g n c:Nat} {o:List Nat} (h:Ow w base (.slice (some ⟨g,0,none⟩) n c) o):base≤g∧g<w.heap.size:=by
 have h0:w.ownsRow base 100 1 (.slice (some ⟨g,0,none⟩) n c) o.length (mY o):=h
 exact h0.lt g rfl
theorem Ow.cell {w:World} {base g n c:Nat} {o:List Nat} (h:Ow w base (.slice (some ⟨g,0,none⟩) n c) o) {j:Nat} (hj:j<n):w.cell? ⟨g,j,none⟩=some (.int .u64 (lb o j:Nat)):=by
 obtain ⟨e,_,_⟩:=h.caps
 subst e
 have h0:w.ownsRow base 100 1 (.slice (some ⟨g,0,none⟩) o.length c) o.length (mY o):=h
 rw [World.ownsRow.cellAt h0 j (by omega)];exact M3 o hj
theorem Ow.frozen {w:World} {base g n c:Nat} {o:List Nat} (h:Ow w base (.slice (some ⟨g,0,none⟩) n c) o) (j:Nat):w.frozen? ⟨g,j,none⟩=false:=by
 obtain ⟨e,_,_⟩:=h.caps
 subst e
 have h0:w.ownsRow base 100 1 (.slice (some ⟨g,0,none⟩) o.length c) o.length (mY o):=h
 exact World.ownsRow.frozenAt h0 j
theorem Ow.nO {w:World} {base g n c:Nat} {o:List Nat} (h:Ow w base (.slice (some ⟨g,0,none⟩) n c) o) (j x:Nat):Ow (w.setCell ⟨g,j,none⟩ (.int .u64 (x:Nat))) base (.slice (some ⟨g,0,none⟩) n c) (o.set j x):=by
 obtain ⟨e,_,_⟩:=h.caps
 subst e
 have h0:w.ownsRow base 100 1 (.slice (some ⟨g,0,none⟩) o.length c) o.length (mY o):=h
 have:=(World.ownsRow.stored h0 j (.int .u64 (x:Nat))).1
 unfold Ow
 rw [Vh,List.length_set]
 exact this
theorem Ow.drew {w:World} {base:Nat} {v:Value} {o:List Nat} (h:Ow w base v o):Ow w.drew base v o:=h
theorem Ow.alloc {w:World} {base:Nat} {v:Value} {o:List Nat} (h:Ow w base v o) (x:Obj):Ow (w.alloc x) base v o:=World.ownsRow.alloc h x
theorem Ow.below {w w':World} {base B:Nat} {v:Value} {o:List Nat} (h:Ow w base v o) (hB:Below B w w') (hv:∀ g,v.ownBlock=some g→g<B):Ow w' base v o:=by
 refine ⟨h.1,?_⟩
 rcases h.2 with hn | ⟨g,cap,cur,rfl,hb,hgg,rest⟩
 · exact .inl hn
 · refine .inr ⟨g,cap,cur,rfl,hb,?_,rest⟩
   rw [hB.block g (hv g rfl)]
   exact hgg
theorem Ow.ext {w w':World} {base g n c:Nat} {o:List Nat} (h:Ow w base (.slice (some ⟨g,0,none⟩) n c) o) (hB:Ext w w'):Ow w' base (.slice (some ⟨g,0,none⟩) n c) o :=
 h.below hB fun g' e=>by have h2:=h.block.2;have e':g=g':=Option.some.inj e;omega
theorem Ow.but {w w':World} {base g q n c:Nat} {o:List Nat} (h:Ow w base (.slice (some ⟨g,0,none⟩) n c) o) (hb:But q w w') (hne:g≠q):Ow w' base (.slice (some ⟨g,0,none⟩) n c) o:=by
 have hlt:=h.block.2
 refine ⟨h.1,?_⟩
 rcases h.2 with hn | ⟨q',cap,cur,e,hbq,hgg,rest⟩
 · exact .inl hn
 · injection e with e1 e2 e3
   injection e1 with e1
   injection e1 with e1
   subst e1
   refine .inr ⟨g,cap,cur,by rw [e2,e3],hbq,?_,rest⟩
   rw [hb.block g hlt (fun e=>hne (by injection e))]
   exact hgg
theorem Ow.nI {w:World} {base base':Nat} {v:Value} {o:List Nat} (h:Ow w base v o) (hb:base'≤base):Ow w base' v o:=by
 refine ⟨h.1,?_⟩
 rcases h.2 with hn | ⟨g,cap,cur,rfl,hg,rest⟩
 · exact .inl hn
 · exact .inr ⟨g,cap,cur,rfl,by omega,rest⟩
theorem Ow.zeros {w:World} {base g:Nat} {n:Nat} (h:w.ownsRow base 100 1 (.slice (some ⟨g,0,none⟩) n n) n (madeCells (Value.int .u64 0).cells (n*1)).toList) :
  Ow w base (.slice (some ⟨g,0,none⟩) n n) (List.replicate n 0):=by
 have e:(madeCells (Value.int .u64 0).cells (n*1)).toList=mY (List.replicate n 0):=by
  rw [EA,Nat.mul_one];exact toList_madeCells_one _ _
 rw [e] at h
 unfold Ow
 rw [List.length_replicate]
 exact h
theorem Ow.Dr {w:World} {base g n c:Nat} {o:List Nat} (h:Ow w base (.slice (some ⟨g,0,none⟩) n c) o) (hx:∀ x∈o,x<18446744073709551616) (q:Nat) (hq:g≠q):V q w (.slice (some ⟨g,0,none⟩) n c) o:=by
 obtain ⟨e,h1,h2⟩:=h.caps
 subst e
 refine ⟨_,c,rfl,⟨h1,by unfold maxLen at h2;omega⟩,hx,fun h0=>⟨_,rfl,h.block.2,hq,fun j hj=>?_⟩⟩
 rw [DI];exact h.cell hj
theorem Ext.but {g:Nat} {a b c:World} (h:Ext a b) (k:But g b c) (hg:a.heap.size≤g):Ext a c:=Below.trans h (k.below hg h.size)
end Go.Proofs.YtdpmbgomcjnohaaGreatDoor
/- Limbs as words, and back. -/
namespace Go.Proofs.YtdpmbgomcjnohaaGreatDoor
open Go.RowKit
set_option linter.unusedVariables false
set_option maxHeartbeats 400000
theorem u64_or32 (x y z:Nat) (hx:x<4294967296) (hy:y<4294967296) (hz:x+4294967296*y=z):bits .or .u64 (x:Int) ((4294967296*y:Nat):Int)=(z:Int):=by
 rw [u64_or_nat _ _ (by omega) (by omega),Nat.or_comm,nat_join 32 _ x (Nat.mul_mod_right _ _) hx]
 omega
structure V7 (xs:List Nat) (m i:Nat) (o:List Nat):Prop where
 len:o.length=m
 at_:∀ j,j<i→lb o j=lb (iJ xs) j
theorem V7.step {xs:List Nat} {m i:Nat} {o:List Nat} (h:V7 xs m i o) (hi:i<m) (x:Nat) (hx:lb (iJ xs) i=x):V7 xs m (i+1) (o.set i x):=by
 refine ⟨by simp [h.len],fun j hj=>?_⟩
 rw [iN _ _ _ _ (by rw [h.len];exact hi)]
 by_cases e:i=j
 · rw [if_pos e,← e,hx]
 · rw [if_neg e];exact h.at_ j (by omega)
theorem V7.done {xs:List Nat} {m:Nat} {o:List Nat} (h:V7 xs m m o) (hm:(iJ xs).length=m):o=iJ xs :=
 mP (by rw [h.len,hm]) fun j hj=>h.at_ j (by rw [← h.len];exact hj)
set_option maxRecDepth 100000 in
set_option maxHeartbeats 4000000 in
theorem lX (w:World) (v:Value) (xs:List Nat) (h:U w v xs) (hl:xs.length≤1000000) (m:Nat) (hm:(xs.length+1)/2=m) :
  Calls Tryz.prog 153 #[v] w fun e w'=>e = .returned (.slice (some ⟨w.heap.size,0,none⟩) m m)∧Ow w' w.heap.size (.slice (some ⟨w.heap.size,0,none⟩) m m) (iJ xs)∧Ext w w':=by
 obtain ⟨A,c,rfl,⟨hc,hmx⟩,hx,hr⟩:=h
 obtain ⟨i0,hi,hz0,hz1,hz2⟩:=info_parts rO
 obtain ⟨n,hn⟩:∃ n,xs.length=n:=⟨_,rfl⟩
 rw [hn] at hc hmx hr hl hm ⊢
 have HM:Hid ((iJ xs).length=m):=by rw [Hid,jo,hn];exact hm
 have HN:=Lib.hid hn
 have HXL:=Lib.hid (wD xs)
 have hmi:((n:Int)+1)/2=(m:Int):=by omega
 obtain ⟨q,hq⟩:∃ q,n/2=q:=⟨_,rfl⟩
 have hqi:(n:Int)/2=(q:Int):=by omega
 obtain ⟨B,hB⟩:∃ B,w.heap.size=B:=⟨_,rfl⟩
 rw [hB]
 have Dl:=Lib.hid hB
 have hm1:m≤1000000:=by omega
 clear hn
 go_enter Tryz.func153,Tryz.ntmps153
 go_wp2_with (at_make;refine wpList_make_full _ rfl _ _ 139 rfl w.heap.size 100 i0 (.int .u64 0) 1 Tryz.underlying139 hi hz0 hz1 _ _ _ _ m rfl rfl (by omega) (by omega) (by rw [hz2];omega) (by unfold maxLen;omega) (Nat.le_refl _) ?_;intro w1 hown hgrow)
 have ho0:=Ow.zeros hown
 have hE0:Ext w w1:=(Ext.refl w).grown hgrow (Nat.le_refl _) (fun _ h=>by cases h)
 rw [hB] at ho0
 clear hown hgrow hi hz0 hz1 hz2 i0
 go_wp2
 go_loopw [13] (fun t wr=>∃ (i:Nat) (o:List Nat),i≤q∧t = .int .i64 (i:Nat)∧Hid (V7 xs m i o)∧Ow wr B (.slice (some ⟨B,0,none⟩) m m) o∧Ext w wr) (fun t _=>q-(intOf t).toNat)
 case atStart=>exact ⟨0,_,Nat.zero_le _,rfl,⟨by simp,fun j hj=>absurd hj (by omega)⟩,ho0,hE0⟩
 case round =>
  clear ho0 hE0
  obtain ⟨i,o,hiq,rfl,HO,hown,hE⟩:=hrel
  by_cases hlt:i<q
  · obtain ⟨ad,rfl,hb,hcell⟩:=hr (by omega)
    have hc0:=(hE.cell (p:=ad.add (2*i)) (by rw [aF];exact hb)).trans (hcell (2*i) (by omega))
    have hc1:=(hE.cell (p:=ad.add (2*i+1)) (by rw [aF];exact hb)).trans (hcell (2*i+1) (by omega))
    rw [Uf _ (2*i+1) (by omega)] at hc1
    have hb0:=cK hx (2*i)
    have hb1:=cK hx (2*i+1)
    have hz:=HXL.out i
    obtain ⟨x,hx0⟩:∃ x,lb xs (2*i)=x:=⟨_,rfl⟩
    obtain ⟨y,hy0⟩:∃ y,lb xs (2*i+1)=y:=⟨_,rfl⟩
    rw [hx0] at hc0 hb0 hz
    rw [hy0] at hc1 hb1 hz
    obtain ⟨z,hzz⟩:∃ z,x+4294967296*y=z:=⟨_,rfl⟩
    rw [hzz] at hz
    have hor:=u64_or32 x y z hb0 hb1 hzz
    have hyi:(y:Int)*4294967296=((4294967296*y:Nat):Int):=by omega
    have hyw:IntKind.u64.wrap ((4294967296*y:Nat):Int)=((4294967296*y:Nat):Int):=by rw [IntKind.wrap_u64];omega
    have hym:((4294967296*y:Nat):Int)%18446744073709551616=((4294967296*y:Nat):Int):=by omega
    have hxw:IntKind.u64.wrap (x:Int)=(x:Int):=by rw [IntKind.wrap_u64];omega
    have ai3:IntKind.u64.wrap (y:Int)=(y:Int):=by rw [IntKind.wrap_u64];omega
    have hf:=hown.frozen i
    have hcz:=hown.cell (j:=i) (by omega)
    have hown2:=hown.nO i z
    have hE2:=hE.setCell (p:=⟨B,i,none⟩) (by rw [hB];exact Nat.le_refl _) (.int .u64 (z:Nat))
    have HST:Hid (V7 xs m (i+1) (o.set i z)):=HO.out.step (by omega) z hz
    generalize 4294967296*y=y2 at *
    have h2a:(0:Int)≤2*(i:Int):=by omega
    have h2b:2*(i:Int)<(n:Int):=by omega
    have h2c:2*(i:Int)+1<(n:Int):=by omega
    have h2d:(2*(i:Int)).toNat=2*i:=by omega
    have h2e:(2*(i:Int)+1).toNat=2*i+1:=by omega
    have h2f:(i:Int)<(m:Int):=by omega
    have hbn:(ad.add (2*i)).block≠B:=by rw [aF];omega
    have ai4:ad.block≠B:=by omega
    clear hx0 hy0 hz hzz hb0 hb1 hown HO hE
    go_wp2
    go_region
    all_goals
     go_wp2
     go_roundw
     case rel=>exact ⟨i+1,_,by omega,by go_num,HST,hown2.drew,hE2.drew⟩
     case measure=>simp [intOf];omega
  · obtain rfl:i=q:=by omega
    by_cases hodd:n%2=1
    · have hmm:m=i+1:=by omega
      have hm2:(n:Int).tmod 2=1:=by rw [Int.tmod_eq_emod_of_nonneg (by omega)];omega
      have TK:(n:Int)%2=1:=by omega
      obtain ⟨ad,rfl,hb,hcell⟩:=hr (by omega)
      have hc0:=(hE.cell (p:=ad.add (2*i)) (by rw [aF];exact hb)).trans (hcell (2*i) (by omega))
      have hz:=HXL.out i
      rw [pz (o:=xs) (j:=2*i+1) (by rw [HN.out];omega),Nat.mul_zero,Nat.add_zero] at hz
      have hb0:=cK hx (2*i)
      obtain ⟨x,hx0⟩:∃ x,lb xs (2*i)=x:=⟨_,rfl⟩
      rw [hx0] at hc0 hb0 hz
      have hxw:IntKind.u64.wrap (x:Int)=(x:Int):=by rw [IntKind.wrap_u64];omega
      have hf:=hown.frozen i
      have hcz:=hown.cell (j:=i) (by omega)
      have hown2:=hown.nO i x
      have hE2:=hE.setCell (p:=⟨B,i,none⟩) (by rw [hB];exact Nat.le_refl _) (.int .u64 (x:Nat))
      have HST:Hid (V7 xs m (i+1) (o.set i x)):=HO.out.step (by omega) x hz
      rw [← hmm] at HST
      have hdone:=HST.out.done HM.out
      rw [hdone] at hown2
      have e1:(n:Int)-1=((2*i:Nat):Int):=by omega
      have e2:(m:Int)-1=(i:Int):=by omega
      have e3:2*i<n:=by omega
      have e4:i<m:=by omega
      clear hx0 hz hb0 hown HO hE hdone HST
      go_wp2
      go_ret
      exact ⟨rfl,hown2,hE2⟩
    · have hmm:m=i:=by omega
      have hm2:(n:Int).tmod 2=0:=by rw [Int.tmod_eq_emod_of_nonneg (by omega)];omega
      have TK:(n:Int)%2=0:=by omega
      subst hmm
      have hdone:=HO.out.done HM.out
      rw [hdone] at hown
      clear hdone HO
      go_wp2
      go_ret
      exact ⟨rfl,hown,hE⟩
theorem xO (w:World) (v:Value) (xs:List Nat) (h:U w v xs) :
  Calls Tryz.prog 154 #[v] w fun e w'=>(∃ u,e = .returned u∧Un w u (val xs))∧w=w':=by
 have h':=h
 obtain ⟨A,c,rfl,⟨hc,hm⟩,hx,hr⟩:=h
 go_enter Tryz.func154,Tryz.ntmps154
 go_wp2
 go_loop [3] (fun n=>∃ k:Nat,k≤xs.length∧n = .int .i64 k∧Hid (∀ j,k≤j→j<xs.length→lb xs j=0)) (fun n=>(intOf n).toNat)
 case atStart=>exact ⟨xs.length,Nat.le_refl _,rfl,fun j h1 h2=>by omega⟩
 case round =>
  obtain ⟨k,hk,rfl,hz⟩:=hrel
  have hfin:∀ c',k≤c'→(0<k→lb xs (k-1)≠0)→Un w (.slice A k c') (val xs):=fun c' h1 h2=>by
   unfold Un;rw [wL xs k hx hk hz.out h2];exact h'.take hk h1
  rcases Nat.eq_zero_or_pos k with rfl | h0
  · have HF:=Lib.hid (hfin 0 (Nat.le_refl _) (fun h=>absurd h (by omega)))
    clear hfin
    go_wp2
    go_ways
    go_ret
    exact ⟨⟨_,rfl,HF.out⟩,rfl⟩
  · obtain ⟨ad,rfl,hb,hcell⟩:=hr (by omega)
    have hc1:=hcell (k-1) (by omega)
    by_cases hx0:lb xs (k-1)=0
    · have ht:((((lb xs (k-1):Nat)):Int)==0)=true:=by rw [hx0];rfl
      have HX:=Lib.hid hx0
      clear hx0
      go_wp2
      go_round
      case rel=>exact ⟨k-1,by omega,by go_num,fun j h1 h2=>by
       rcases Nat.lt_or_ge j k with h3 | h3
       · have:j=k-1:=by omega
         subst this;exact HX.out
       · exact hz.out j h3 h2⟩
      case measure=>simp [intOf];omega
    · have ht:((((lb xs (k-1):Nat)):Int)==0)=false:=by rw [beq_eq_false_iff_ne];omega
      have HF:=Lib.hid (hfin k (Nat.le_refl _) (fun _=>hx0))
      clear hfin hx0
      go_wp2
      go_ret
      exact ⟨⟨_,rfl,HF.out⟩,rfl⟩
structure TB (ws:List Nat) (m i:Nat) (o:List Nat):Prop where
 len:o.length=m
 at_:∀ j,j<2*i→lb o j=lb (eu ws) j
theorem TB.step {ws:List Nat} {m i:Nat} {o:List Nat} (h:TB ws m i o) (hi:2*i+1<m) (x:Nat) (hx:lb ws i=x):TB ws m (i+1) ((o.set (2*i) (x%4294967296)).set (2*i+1) (x/4294967296)):=by
 refine ⟨by simp [h.len],fun j hj=>?_⟩
 have hu:=K3 ws i
 rw [hx] at hu
 rw [iN _ _ _ _ (by rw [List.length_set,h.len];exact hi),iN _ _ _ _ (by rw [h.len];omega)]
 by_cases e:2*i+1=j
 · rw [if_pos e,← e,hu.2]
 · rw [if_neg e]
   by_cases e2:2*i=j
   · rw [if_pos e2,← e2,hu.1]
   · rw [if_neg e2];exact h.at_ j (by omega)
theorem TB.done {ws:List Nat} {m i:Nat} {o:List Nat} (h:TB ws m i o) (hm:(eu ws).length=m) (hi:2*i=m):o=eu ws :=
 mP (by rw [h.len,hm]) fun j hj=>h.at_ j (by rw [hi,← h.len];exact hj)
set_option maxRecDepth 100000 in
set_option maxHeartbeats 4000000 in
theorem qY (w:World) (g0:Nat) (v:Value) (ws:List Nat) (h:V g0 w v ws) (hl:ws.length≤1000000) :
  Calls Tryz.prog 151 #[v] w fun e w'=>(∃ u,e = .returned u∧Un w' u (aU ws))∧Ext w w':=by
 obtain ⟨A,c,rfl,⟨hc,hmx⟩,hx,hr⟩:=h
 obtain ⟨i0,hi,hz0,hz1,hz2⟩:=info_parts qB
 obtain ⟨n,hn⟩:∃ n,ws.length=n:=⟨_,rfl⟩
 rw [hn] at hc hmx hr hl ⊢
 obtain ⟨m,hm⟩:∃ m,2*n=m:=⟨_,rfl⟩
 have HM:Hid ((eu ws).length=m):=by rw [Hid,y7,hn];exact hm
 have hmi:(2:Int)*(n:Int)=(m:Int):=by omega
 obtain ⟨B,hB⟩:∃ B,w.heap.size=B:=⟨_,rfl⟩
 have hm1:m≤2000000:=by omega
 have HW:=Lib.hid (AP ws hx)
 have HV:=Lib.hid (y8 ws)
 have HTR:=Lib.hid (fun W v h=>xO W v (eu ws) h)
 clear hn
 go_enter Tryz.func151,Tryz.ntmps151
 go_wp2_with (at_make;refine wpList_make_full _ rfl _ _ 22 rfl w.heap.size 67 i0 (.int .u32 0) 1 Tryz.underlying22 hi hz0 hz1 _ _ _ _ m rfl rfl (by omega) (by omega) (by rw [hz2];omega) (by unfold maxLen;omega) (Nat.le_refl _) ?_;intro w1 hown hgrow)
 have ho0:Own w1 w.heap.size (.slice (some ⟨w.heap.size,0,none⟩) m m) (List.replicate m 0):=by
  have:=Own.zeros hown
  rwa [List.length_replicate] at this
 have hE0:Ext w w1:=(Ext.refl w).grown hgrow (Nat.le_refl _) (fun _ h=>by cases h)
 rw [hB] at ho0
 clear hown hgrow hi hz0 hz1 hz2 i0
 go_wp2
 go_loopw [12] (fun t wr=>∃ (i:Nat) (o:List Nat),i≤n∧t = .int .i64 (i:Nat)∧Hid (TB ws m i o)∧Own wr B (.slice (some ⟨B,0,none⟩) m m) o∧Ext w wr) (fun t _=>n-(intOf t).toNat)
 case atStart=>exact ⟨0,_,Nat.zero_le _,rfl,⟨by simp,fun j hj=>absurd hj (by omega)⟩,ho0,hE0⟩
 case round =>
  clear ho0 hE0
  obtain ⟨i,o,hiq,rfl,HO,hown,hE⟩:=hrel
  by_cases hlt:i<n
  · obtain ⟨ad,rfl,hb,hne,hcell⟩:=hr (by omega)
    have hc0:=(hE.cell (p:=ad.add i) (by rw [aF];exact hb)).trans (hcell i hlt)
    have hb0:lb ws i<18446744073709551616:=dh (by decide) hx i
    obtain ⟨x,hx0⟩:∃ x,lb ws i=x:=⟨_,rfl⟩
    rw [hx0] at hc0 hb0
    have HST:Hid (TB ws m (i+1) ((o.set (2*i) (x%4294967296)).set (2*i+1) (x/4294967296))):=HO.out.step (by omega) x hx0
    have hol:=HO.out.len
    have hf0:=hown.frozen' (2*i)
    have hf1:=hown.frozen' (2*i+1)
    have hk0:=hown.rd.2 (2*i) (by omega)
    have hk1:=hown.rd.2 (2*i+1) (by omega)
    have hown2:=(hown.set' (2*i) (x%4294967296)).set' (2*i+1) (x/4294967296)
    have hE2:=(hE.setCell (p:=⟨B,2*i,none⟩) (by rw [hB];exact Nat.le_refl _) (.int .u32 (x%4294967296:Nat))).setCell (p:=⟨B,2*i+1,none⟩) (by rw [hB];exact Nat.le_refl _) (.int .u32 (x/4294967296:Nat))
    obtain ⟨x0,OW⟩:∃ x0,x%4294967296=x0:=⟨_,rfl⟩
    obtain ⟨x1,OX⟩:∃ x1,x/4294967296=x1:=⟨_,rfl⟩
    rw [OW,OX] at HST hown2 hE2
    have f0:IntKind.u32.wrap (x:Int)=(x0:Int):=by rw [IntKind.wrap_u32];omega
    have f00:(x:Int)%4294967296=(x0:Int):=by omega
    have f1:(x:Int)/4294967296=(x1:Int):=by omega
    have TC:x1<4294967296:=by omega
    have f2:IntKind.u32.wrap (x1:Int)=(x1:Int):=by rw [IntKind.wrap_u32];omega
    have f3:(x1:Int)%4294967296=(x1:Int):=by omega
    have h2a:(0:Int)≤2*(i:Int):=by omega
    have h2b:2*(i:Int)<(m:Int):=by omega
    have h2c:2*(i:Int)+1<(m:Int):=by omega
    have h2d:(2*(i:Int)).toNat=2*i:=by omega
    have h2e:(2*(i:Int)+1).toNat=2*i+1:=by omega
    have hbn:(ad.add i).block≠B:=by rw [aF];omega
    clear hx0 hb0 OW OX hown HO hE hol
    go_wp2
    go_roundw
    case rel=>exact ⟨i+1,_,by omega,by go_num,HST,hown2,hE2⟩
    case measure=>simp [intOf];omega
  · obtain rfl:i=n:=by omega
    have hdone:=HO.out.done HM.out hm
    rw [hdone] at hown
    have hu:=hown.xX HW.out (by rw [HM.out];omega)
    clear hdone HO hown
    go_wp2_with (fail)
    refine (HTR.out _ _ hu).mono ?_
    rintro e w2 ⟨⟨u,rfl,hu2⟩,rfl⟩
    rw [HV.out] at hu2
    have HF:Hid (∃ u',Ending.returned u = .returned u'∧Un wr u' (aU ws)):=⟨_,rfl,hu2⟩
    clear hu2 hu
    go_wp2
    go_ret
    exact ⟨HF.out,hE⟩
end Go.Proofs.YtdpmbgomcjnohaaGreatDoor
