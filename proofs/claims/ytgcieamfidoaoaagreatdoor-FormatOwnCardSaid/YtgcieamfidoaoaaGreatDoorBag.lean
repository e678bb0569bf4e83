/- nat.Sub. -/
import Derived.Test.YtgcieamfidoaoaaGreatDoorBaf
import Derived.Test.YtgcieamfidoaoaaGreatDoorBae
import Derived.Test.YtgcieamfidoaoaaGreatDoorBad
import Derived.Laws.Externs
import Derived.Shelf.Spec.BitsCarry
import Derived.Laws.CopyOwn
import Derived.Deep.RegionHeld3
import Derived.Deep.Cut
set_option linter.all false
set_option maxHeartbeats 8000000
namespace Go.Proofs.YtgcieamfidoaoaaGreatDoor
open Go.RowKit Go.Shelf
attribute [local go_sem] Oper.semAt_some
attribute [local go_sem ↓] oL
attribute [local go_sem] iy
set_option maxRecDepth 100000 in
theorem ZO (w:World) (v u:Value) (n m:Nat) (xs ys:List Nat) (hxs:limbs n=xs) (hys:limbs m=ys) (h:U w v xs) (g:U w u ys) (hl:ys.length≤xs.length) (hle:m≤n) (hm:xs.length≤1000000000) :
  CallsIn Fence.wide 4 Tryz.prog 140 #[v,u] w fun e w'=>(∃ z,e = .returned (.tuple #[z,.bool true])∧Un w' z (n-m))∧Below w.heap.size w w':=by
 obtain ⟨A,c,rfl,⟨hc,_⟩,hx,hr⟩:=id h
 obtain ⟨A2,c2,rfl,⟨hc2,_⟩,hx2,hr2⟩:=id g
 clear hr hr2
 have hcm:decide (bN n m<0)=false:=by
  rw [decide_eq_false_iff_not]
  unfold bN
  split
  · omega
  · split<;>omega
 have hvx:val xs=n:=by rw [← hxs,aJ]
 have hvy:val ys=m:=by rw [← hys,aJ]
 have Ll:=zK w _ _ n m (by rw [Un,hxs];exact h) (by rw [Un,hys];exact g)
 have HXS:=Lib.hid hvx
 have HYS:=Lib.hid hvy
 have HLE:=Lib.hid hle
 have HL:=Lib.hid hl
 clear hl hle hvx hvy hxs hys
 obtain ⟨i0,hi,hz0,hz1,hz2⟩:=info_parts info57
 refine callsIn_of_wp_marks Tryz.func140 rfl trivial ?_ rfl
 simp only [Tryz.ntmps140,List.size_toArray,List.length_cons,List.length_nil,Nat.reduceAdd,Nat.reduceSub,Array.replicate_succ,Array.replicate_zero,List.push_toArray,List.append_toArray,List.nil_append,List.cons_append]
 gi_wp2_with (fail)
 refine ⟨trivial,?_⟩
 refine (callsIn_wide.2 Ll).mono ?_
 rintro e wc ⟨rfl,hBc⟩
 have h':=h.below hBc
 have g':=g.below hBc
 gi_wp2_with (first | (gi_at_make;refine wpListIn_make_own _ rfl _ _ 24 rfl wc.heap.size 57 i0 (.int .u32 0) 1 Tryz.underlying24 hi hz0 hz1 _ _ _ xs.length rfl rfl (by omega) (by rw [hz2];omega) (by unfold maxLen;omega) (Nat.le_refl _) ?_;intro w1 hown hgrow) | (refine ⟨trivial,?_⟩;gi_at_call 166;refine (callsIn_wide.2 (JI _)).mono ?_;rintro e w' ⟨rfl,rfl⟩) | (refine ⟨trivial,?_⟩;gi_at_call 125;refine (callsIn_wide.2 (uC _ _ _ _ _ _ _)).mono ?_;rintro e w' ⟨rfl,rfl⟩))
 obtain ⟨B,hB⟩:∃ B,w1.heap.size=B:=⟨_,rfl⟩
 obtain ⟨W0,hW0⟩:∃ W0,(((((w1.alloc (.cells #[.slice (some ⟨wc.heap.size,0,none⟩) 0 xs.length] 24)).alloc (.cells #[.int .u32 0] 57)).alloc (.cells #[.func (.func 183) #[] #[.pointer (some ⟨w1.heap.size+1,0,none⟩)]] 127)).alloc (.cells #[.slice A xs.length c] 24)).alloc (.cells #[.slice A2 ys.length c2] 24))=W0:=⟨_,rfl⟩
 have hB1:Below wc.heap.size wc w1:=(Below.refl _ _).grown hgrow (Nat.le_refl _) (fun _ h=>by cases h)
 have Ti:=hB1.size
 have hB0:Below wc.heap.size wc W0:=by
  rw [← hW0]
  exact ((((hB1.alloc (by omega) _).alloc (by simp;omega) _).alloc (by simp;omega) _).alloc (by simp;omega) _).alloc (by simp;omega) _
 have hsz:W0.heap.size=B+5:=by rw [← hW0,← hB];simp
 have b0:Boxed W0 B 24 (.slice (some ⟨wc.heap.size,0,none⟩) 0 xs.length):=by
  rw [← hW0,← hB];exact ((((Boxed.new w1 24 _).alloc _).alloc _).alloc _).alloc _
 have b1:Boxed W0 (B+1) 57 (.int .u32 0):=by
  rw [← hW0,← hB]
  have:=((((Boxed.new (w1.alloc (.cells #[.slice (some ⟨wc.heap.size,0,none⟩) 0 xs.length] 24)) 57 (.int .u32 0)).alloc (.cells #[.func (.func 183) #[] #[.pointer (some ⟨w1.heap.size+1,0,none⟩)]] 127)).alloc (.cells #[.slice A xs.length c] 24)).alloc (.cells #[.slice A2 ys.length c2] 24))
  simpa using this
 have b2:Boxed W0 (B+2) 127 (.func (.func 183) #[] #[.pointer (some ⟨B+1,0,none⟩)]):=by
  rw [← hW0,← hB]
  have:=(((Boxed.new ((w1.alloc (.cells #[.slice (some ⟨wc.heap.size,0,none⟩) 0 xs.length] 24)).alloc (.cells #[.int .u32 0] 57)) 127 (.func (.func 183) #[] #[.pointer (some ⟨w1.heap.size+1,0,none⟩)])).alloc (.cells #[.slice A xs.length c] 24)).alloc (.cells #[.slice A2 ys.length c2] 24))
  simpa using this
 have b3:Boxed W0 (B+3) 24 (.slice A xs.length c):=by
  rw [← hW0,← hB]
  have:=((Boxed.new (((w1.alloc (.cells #[.slice (some ⟨wc.heap.size,0,none⟩) 0 xs.length] 24)).alloc (.cells #[.int .u32 0] 57)).alloc (.cells #[.func (.func 183) #[] #[.pointer (some ⟨w1.heap.size+1,0,none⟩)]] 127)) 24 (.slice A xs.length c)).alloc (.cells #[.slice A2 ys.length c2] 24))
  simpa using this
 have b4:Boxed W0 (B+4) 24 (.slice A2 ys.length c2):=by
  rw [← hW0,← hB]
  have:=(Boxed.new ((((w1.alloc (.cells #[.slice (some ⟨wc.heap.size,0,none⟩) 0 xs.length] 24)).alloc (.cells #[.int .u32 0] 57)).alloc (.cells #[.func (.func 183) #[] #[.pointer (some ⟨w1.heap.size+1,0,none⟩)]] 127)).alloc (.cells #[.slice A xs.length c] 24)) 24 (.slice A2 ys.length c2))
  simpa using this
 have hown0:Own W0 wc.heap.size (.slice (some ⟨wc.heap.size,0,none⟩) ([]:List Nat).length xs.length) []:=by
  rw [← hW0];exact ((((World.ownsRow.alloc hown _).alloc _).alloc _).alloc _).alloc _
 have hS0:yH wc B wc.heap.size xs.length 183 [] 0 W0:=⟨b0,hown0,b1,b2,hB0,by omega⟩
 have hBw:wc.heap.size<B:=by have:=(World.ownsRow.lt hown wc.heap.size rfl).2;omega
 have hWr:Boxed W0 B 24 (.slice (some ⟨wc.heap.size,0,none⟩) 0 xs.length):=b0
 rw [hW0]
 rw [hB]
 clear hW0 b0 b1 b2 hown0 hown hgrow hB1 Ti hWr hB
 refine wpIn_rangeFunc_ownG rfl (by omega) (gf := 149) (lb:=#[.pointer (some ⟨B+4,0,none⟩),.pointer (some ⟨B+3,0,none⟩)]) rfl trivial (enters_of Tryz.func149 (by kernel_rfl) rfl)
  (uD (B+3) (B+4) _ _ xs ys wc W0 hB0 HL.out (by omega) (by omega) b3 b4 h' g') Lh.trans (Tg (by omega) (by omega) (by omega)) (Below.refl _ _) (fun _=>rfl)
  (fun pre W=>∃ o cy,Hid (rV pre o cy)∧yH wc B wc.heap.size xs.length 183 o cy W)
  (fun c pre W=>False)
  (fun s X Y row hs hg hr=>by obtain ⟨o,cy,ha,hs⟩:=hs;exact ⟨o,cy,ha,hs.grown hg (by omega) hr⟩)
  (fun c s X Y row hs hg hr=>hs)
  ⟨[],0,rV.start,hS0⟩
  (fun x=>{ tmps:=#[.slice A xs.length c,.slice A2 ys.length c2,undef,undef,.slice none 0 0,.bool false,.pointer (some ⟨B,0,none⟩),.pointer (some ⟨B+1+1,0,none⟩),.int .u32 (x.1.1:Int),.int .u32 (x.1.2:Int),.slice A xs.length c,.slice A2 ys.length c2,.int .i64 (bN n m),.bool false,.slice A xs.length c,.int .i64 (xs.length:Int),.slice (some ⟨wc.heap.size,0,none⟩) 0 xs.length,.func (.func 183) #[] #[.pointer (some ⟨B+1,0,none⟩)],.slice A xs.length c,.slice A2 ys.length c2,.func (.func 149) #[] #[.pointer (some ⟨B+1+1+1+1,0,none⟩),.pointer (some ⟨B+1+1+1,0,none⟩)],.int .u32 (x.1.1:Int),.int .u32 (x.1.2:Int),undef,undef,undef,undef,undef,undef,undef,undef,undef],defers:=[] }) ?assign ?body ?done ?stop
 case assign =>
  intro l x W K hK
  gi_wp2
  exact hK
 case body =>
  rintro l pre x W ⟨o,cy,HA,hS⟩ hpl
  have hb0:=hS.box.cell
  have hf0:=hS.box.frozen
  have hb1:=hS.Li.cell
  have hf1:=hS.Li.frozen
  have hb2:=hS.TB.cell
  have hmx:Tryz.prog.follows .mixedOrders=true:=by kernel_rfl
  have hcy:=HA.out.carry
  have hlen:=HA.out.len
  have hol:o.length+1≤xs.length:=by omega
  have HA2:=Lib.hid (HA.out.step x)
  have afG:=rT x.1.1 x.1.2 cy
  obtain ⟨d,hd⟩:∃ d,nS x.1.1 x.1.2 cy=d:=⟨_,rfl⟩
  obtain ⟨cz,hcz⟩:∃ d,qJ x.1.1 x.1.2 cy=d:=⟨_,rfl⟩
  have hcall:=GM W.drew x.1.1 x.1.2 cy (B+1) x.2.1 x.2.2 hcy hb1 hf1
  rw [hd,hcz] at hcall HA2
  obtain ⟨W1,hW1⟩:∃ W1,W.drew.setCell ⟨B+1,0,none⟩ (.int .u32 (cz:Nat))=W1:=⟨_,rfl⟩
  rw [hW1] at hcall
  have hsz1:W1.heap.size=W.heap.size:=by rw [← hW1];simp [World.setCell]
  have hg1:W.grownBy W1 (some (B+1)):=by rw [← hW1];have hq:=grownBy_setCell' W.drew (B+1) (.int .u32 (cz:Nat));exact ⟨hq.os,hq.tape,hq.output,hq.size,hq.block⟩
  have hown1:(W1.alloc (.cells #[.int .u32 (d:Nat)] 57)).ownsRow wc.heap.size 57 1 (.slice (some ⟨wc.heap.size,0,none⟩) o.length xs.length) o.length (su o) :=
   World.ownsRow.alloc (World.ownsRow.kept hS.own hg1 (.inr (by simp [Value.ownBlock];omega))) _
  have hx0:=hS.box.kept hg1 (by intro e;injection e with e;omega)
  have hx2:=hS.TB.kept hg1 (by intro e;injection e with e;omega)
  have hx1:Boxed W1 (B+1) 57 (.int .u32 (cz:Nat)):=by rw [← hW1];exact Boxed.set (W:=W.drew) _ hS.Li
  have hxb:Below wc.heap.size wc W1:=hS.DI.grown hg1 hS.DI.size (fun k e=>by injection e with e;omega)
  have hxW:Below wc.heap.size W W1:=(Below.refl _ W).grown hg1 hS.DI.size (fun k e=>by injection e with e;omega)
  have hko:KeepsOthers W W1:=by rw [← hW1];exact (KeepsOthers.drew W).trans (KeepsOthers.setCell _ _ _)
  obtain ⟨W2,hrun,hown2,hgrow2⟩:=run_append_fits (P:=Tryz.prog) (W1.alloc (.cells #[.int .u32 (d:Nat)] 57)) wc.heap.size 24 24 57 i0 1 Tryz.underlying24 hi hz1 wc.heap.size o.length xs.length (su o) hown1
   ⟨W1.heap.size,0,none⟩ 1 1 [.int .u32 (d:Nat)] rfl (by intro j u hj;cases j with | zero=>simp at hj;subst hj;simp [Addr.add] | succ j=>simp at hj) (by simp [Value.oneCell']) hol
  have hy0:=(hx0.alloc (.cells #[.int .u32 (d:Nat)] 57)).kept hgrow2 (by intro e;injection e with e;omega)
  have hy1:=(hx1.alloc (.cells #[.int .u32 (d:Nat)] 57)).kept hgrow2 (by intro e;injection e with e;omega)
  have hy2:=(hx2.alloc (.cells #[.int .u32 (d:Nat)] 57)).kept hgrow2 (by intro e;injection e with e;omega)
  have hyb:Below wc.heap.size wc W2:=(hxb.alloc hxb.size _).grown hgrow2 (by have:=hxb.size;rw [World.size_alloc];omega) (fun k e=>by injection e with e;omega)
  have hyW:Below wc.heap.size W W2:=(hxW.alloc hxb.size _).grown hgrow2 (by have:=hxb.size;rw [World.size_alloc];omega) (fun k e=>by injection e with e;omega)
  have hkeep:∀ k,k<W.heap.size→k≠B+1→k≠wc.heap.size→W2.heap[k]?=W.heap[k]?:=fun k h1 h2 h3 =>
   ((hgrow2.block k (by rw [World.size_alloc];omega) (fun e=>h3 (by injection e))).trans (Below.heap_alloc _ _ k (by omega))).trans (hg1.block k h1 (fun e=>h2 (by injection e)))
  have A9:KeepsOthers W W2:=(hko.trans (KeepsOthers.alloc _ _)).trans (KeepsOthers.of_grownBy hgrow2 fun j ob ej hj=>by
   cases ej
   rcases hown1.2 with ⟨h',_⟩ | ⟨g',cap',cur,h',_,hg,_⟩
   · cases h'
   · cases h';rw [hg] at hj;cases hj;rfl)
  have ac3:=hy0.cell
  have V8:=hx0.cell
  have V9:=(hx0.alloc (.cells #[.int .u32 (d:Nat)] 57)).cell
  have ac4:=hy0.frozen
  have HW1:=Lib.hid hsz1
  obtain ⟨ht1,ht2,ht3⟩:=jc hrun
  clear hrun hW1 hsz1 hd hcz hg1 hlen afG
  gi_wp2
  gi_region_with_o ((refine ⟨trivial,?_⟩;gi_at_call 183;refine (CallsIn.inRound l (callsIn_wide.2 hcall)).mono ?_;rintro e w' ⟨rfl,rfl⟩))
  all_goals gi_wp2
  all_goals
   have Wd:=hS.siz
   have ac5:=A9.size
   have hset:=grownBy_setCell' W2 B (.slice (some ⟨wc.heap.size,0,none⟩) (o.length+1) xs.length)
   have hrow:(W2.setCell ⟨B,0,none⟩ (.slice (some ⟨wc.heap.size,0,none⟩) (o.length+1) xs.length)).ownsRow wc.heap.size 57 1 (.slice (some ⟨wc.heap.size,0,none⟩) (o.length+1) xs.length) (o.length+1) (su o++[.int .u32 (d:Nat)]) :=
    World.ownsRow.kept hown2 hset (.inr (by simp only [Value.ownBlock];intro e;injection e with e;omega))
   refine ⟨(A9.trans (KeepsOthers.setCell _ _ _)).from _,⟨hyW.setCell (p:=⟨B,0,none⟩) (Nat.le_of_lt hBw) _,?_,?_⟩,o++[d],cz,HA2.out,?_,?_,hy1.other (by omega) _,hy2.other (by omega) _,hyb.setCell (p:=⟨B,0,none⟩) (Nat.le_of_lt hBw) _,?_⟩
   · exact (hset.block (B+3) (by omega) (fun e=>by injection e with e;omega)).trans (hkeep (B+3) (by omega) (by omega) (by omega))
   · exact (hset.block (B+4) (by omega) (fun e=>by injection e with e;omega)).trans (hkeep (B+4) (by omega) (by omega) (by omega))
   · rw [List.length_append];exact hy0.set _
   · unfold Own;rw [mW,List.length_append];exact hrow
   · have:=hset.size;omega
 case done =>
  rintro D l W hD hl ⟨o,cy,HA,hS⟩ hK
  have hb0:=hS.box.cell
  have hdone:=HA.out.done hl HL.out (by rw [HXS.out,HYS.out];exact HLE.out)
  rw [HXS.out,HYS.out] at hdone
  have hlen:=HA.out.len
  have hol:o.length=xs.length:=by rw [hlen];have:=congrArg List.length hl;simpa [jE] using this
  have hu:U W (.slice (some ⟨wc.heap.size,0,none⟩) o.length xs.length) o:=Own.BJ hS.own HA.out.lt (by omega)
  have HD:=Lib.hid hdone
  have HB:=Lib.hid (hBc.trans (hS.DI.mono hBc.size))
  clear hdone hol hl hlen
  gi_wp2_with (refine ⟨trivial,?_⟩;gi_at_call 92;refine (callsIn_wide.2 (lF _ _ _ hu)).mono ?_;rintro e w' ⟨⟨z,rfl,hz⟩,rfl⟩)
  rw [HD.out] at hz
  refine ⟨by simp,.inl ⟨_,_,rfl,run_takeDeferred hK,?_⟩⟩
  refine ⟨.tuple #[z,.bool true],by simp [results,Tryz.f140,go_sem],⟨_,rfl,hz.put hK rfl _⟩,HB.out.trans (belowK_b (w:=w) (Nat.le_refl _) _ D _ _ (by have:=hBc.size;omega) hK rfl rfl)⟩
 case stop =>
  rintro D cc pre W hD _ h _
  exact h.elim
theorem Lm (w:World) (v u:Value) (n m:Nat) (h:Un w v n) (g:Un w u m) (hm:(limbs n).length≤1000000000) :
  Calls Tryz.prog 140 #[v,u] w fun e w'=>(∃ z,e = .returned (.tuple #[z,.bool (decide (m≤n))])∧Un w' z (n-m))∧Below w.heap.size w w':=by
 by_cases hle:m≤n
 · rw [decide_eq_true hle]
   exact callsIn_wide.1 (ZO w v u n m _ _ rfl rfl h g (jr hle) hle hm)
 · rw [decide_eq_false hle]
   have hcm:decide (bN n m<0)=true:=by rw [lV (by omega)];rfl
   have hz:Hid (n-m=0):=by rw [Hid];omega
   have Ll:=zK w _ _ n m h g
   clear hle
   go_enter Tryz.func140,Tryz.ntmps140
   go_wp2_with (go_at_call 44;refine Ll.mono ?_;rintro e wc ⟨rfl,hBc⟩)
   go_ret2
   exact ⟨⟨_,rfl,by rw [hz.out,Un,aX];exact U.yX _ _ _⟩,by assumption⟩
end Go.Proofs.YtgcieamfidoaoaaGreatDoor
/- The document's own Make and Made. -/
namespace Go.Proofs.YtgcieamfidoaoaaGreatDoor
open Go.RowKit
set_option maxRecDepth 100000
attribute [local go_sem ↓] oL
attribute [local go_sem] iy
theorem dZ (w:World) (v:Value) (xs:List Nat) (h:U w v xs) (hlen:xs.length≤1000000000) :
  Calls Tryz.prog 100 #[v] w fun e w'=>(∃ u,e = .returned u∧U w' u (limbs (val xs)))∧Below w.heap.size w w':=by
 have h':=h
 obtain ⟨A,c,rfl,⟨hc,hm⟩,hx,hr⟩:=h
 go_enter Tryz.func100,Tryz.ntmps100
 go_wp2
 go_loop [3] (fun n=>∃ k:Nat,k≤xs.length∧n = .int .i64 k∧Hid (∀ j,k≤j→j<xs.length→lb xs j=0)) (fun n=>(intOf n).toNat)
 case atStart=>exact ⟨xs.length,Nat.le_refl _,rfl,fun j h1 h2=>by omega⟩
 case round =>
  obtain ⟨k,hk,rfl,hz⟩:=hrel
  have hfin:(0<k→lb xs (k-1)≠0)→∃ v' w',(Builtin.append_ #[24,24] 24 #[.slice (some ⟨w.heap.size,0,none⟩) 0 0,.slice A k c]).run Tryz.prog (w.alloc (.cells #[] 57)) = .ok v' w'∧U w' v' (limbs (val xs))∧Below w.heap.size w w':=fun h2=>by
   have hB:Below w.heap.size w (w.alloc (.cells #[] 57)):=(Below.refl _ _).alloc (Nat.le_refl _) _
   have hown:Own (w.alloc (.cells #[] 57)) w.heap.size (.slice (some ⟨w.heap.size,0,none⟩) 0 0) []:=World.ownsRow_lit w #[] 0 (Nat.le_refl _) (Nat.zero_le _) rfl
   have hu:U w (.slice A k c) (xs.take k):=h'.take hk (by omega)
   have htl:(xs.take k).length=k:=by simp;omega
   obtain ⟨v',w',hrun,ho,hg⟩:=qW _ w.heap.size _ [] hown _ _ (hu.below hB) (by rw [htl];simp;omega) hB.size
   refine ⟨v',w',hrun,?_,hB.grown hg hB.size (fun j e=>by cases e;exact Nat.le_refl _)⟩
   rw [xx xs k hx hk hz.out h2]
   rw [List.nil_append] at ho
   exact ho.BJ (fun x hx'=>hx x (List.mem_of_mem_take hx')) (by rw [htl];omega)
  rcases Nat.eq_zero_or_pos k with rfl | h0
  · obtain ⟨v',w',hrun,HU,HB⟩:=hfin (fun h=>absurd h (by omega))
    obtain ⟨t1,t2,t3⟩:=jc hrun
    clear hfin hrun
    go_wp2
    go_ret
    exact ⟨⟨_,rfl,HU⟩,HB⟩
  · obtain ⟨ad,rfl,hb,hcell⟩:=hr (by omega)
    have hc1:=hcell (k-1) (by omega)
    by_cases hx0:lb xs (k-1)=0
    · have ht:((((lb xs (k-1):Nat)):Int)==0)=true:=by rw [hx0];rfl
      have HX:=Lib.hid hx0
      clear hx0 hfin
      go_wp2
      go_round
      case rel=>exact ⟨k-1,by omega,by go_num,fun j h1 h2=>by
       rcases Nat.lt_or_ge j k with h3 | h3
       · have:j=k-1:=by omega
         subst this;exact HX.out
       · exact hz.out j h3 h2⟩
      case measure=>simp [intOf];omega
    · have ht:((((lb xs (k-1):Nat)):Int)==0)=false:=by rw [beq_eq_false_iff_ne];omega
      obtain ⟨v',w',hrun,HU,HB⟩:=hfin (fun _=>hx0)
      obtain ⟨t1,t2,t3⟩:=jc hrun
      clear hfin hrun hx0
      go_wp2
      go_ret
      exact ⟨⟨_,rfl,HU⟩,HB⟩
end Go.Proofs.YtgcieamfidoaoaaGreatDoor
/- The contracts in one form: whatever lay lies as it lay; the results as the callers ask for them. -/
namespace Go.Proofs.YtgcieamfidoaoaaGreatDoor
open Go.RowKit
theorem U.un {w:World} {v:Value} {xs:List Nat} {n:Nat} (h:U w v xs) (e:limbs n=xs):Un w v n:=by rw [Un,e];exact h
theorem J3 (w:World):Un w (.slice none 0 0) 0:=by rw [Un,aX];exact U.yX _ _ _
theorem Yx (w:World) (v u:Value) (xs ys:List Nat) (h:U w v xs) (g:U w u ys) (b:Bool) (hb:decide (xs=ys)=b) :
  Calls Tryz.prog 57 #[v,u] w fun e w'=>e = .returned (.bool b)∧Ext w w' :=
 (Lp w v u xs ys h g).mono fun e w' ⟨he,n,hw⟩=>⟨by rw [he,hb],by rw [hw];exact iF w n⟩
theorem Bj (w:World) (v:Value) (xs:List Nat) (h:U w v xs) (b:Bool) (hb:fG xs=b) :
  Calls Tryz.prog 43 #[v] w fun e w'=>e = .returned (.bool b)∧Ext w w' :=
 (JJ w v xs h).mono fun e w' ⟨he,hw⟩=>⟨by rw [he,hb],by rw [← hw];exact Ext.refl w⟩
theorem yV (w:World) (v:Value) (xs:List Nat) (h:U w v xs) (n:Nat) (hn:val xs=n) :
  Calls Tryz.prog 92 #[v] w fun e w'=>∃ u,e = .returned u∧Un w' u n∧Ext w w' :=
 (lF w v xs h).mono fun e w' ⟨⟨u,he,hu⟩,hw⟩=>⟨u,he,by rw [← hw,Un,← hn];exact hu,by rw [← hw];exact Ext.refl w⟩
theorem of_B (w:World) (k:Int) (h0:0≤k) (h1:k<18446744073709551616) (n:Nat) (hn:k.toNat=n) :
  Calls Tryz.prog 181 #[.int .u64 k] w fun e w'=>∃ u,e = .returned u∧Un w' u n∧Ext w w':=by
 subst hn
 have:=Ph w k.toNat (by omega)
 rw [show ((k.toNat:Nat):Int)=k by omega] at this
 exact this.mono fun e w' ⟨⟨u,he,hu⟩,hb⟩=>⟨u,he,hu,hb⟩
theorem WX (w:World) (v:Value) (n:Nat) (h:Un w v n) (k:Int) (b:Bool) (hk:((Cz n:Nat):Int)=k) (hb:yg n=b) :
  Calls Tryz.prog 180 #[v] w fun e w'=>e = .returned (.tuple #[.int .u64 k,.bool b])∧Ext w w' :=
 (Pj w v n h).mono fun e w' ⟨he,hw⟩=>⟨by rw [he,hk,hb],by rw [← hw];exact Ext.refl w⟩
theorem BK (w:World) (v:Value) (n:Nat) (h:Un w v n) (hl:(limbs n).length≤1000000000) (k:Int) (hk:((bJ n:Nat):Int)=k) :
  Calls Tryz.prog 119 #[v] w fun e w'=>e = .returned (.int .i64 k)∧Ext w w' :=
 (Lr w v n h hl).mono fun e w' ⟨he,hw⟩=>⟨by rw [he,hk],by rw [← hw];exact Ext.refl w⟩
theorem Wz (w:World) (v:Value) (n:Nat) (i:Int) (h:Un w v n) (hi0 : -9000000000000≤i) (hi1:i≤9000000000000) (k:Int) (hk:((qp n i:Nat):Int)=k) :
  Calls Tryz.prog 123 #[v,.int .i64 i] w fun e w'=>e = .returned (.int .u32 k)∧Ext w w' :=
 (Pk w v n i hi0 hi1 h).mono fun e w' ⟨he,hw⟩=>⟨by rw [he,hk],by rw [← hw];exact Ext.refl w⟩
theorem jv (w:World) (v u:Value) (n m:Nat) (h:Un w v n) (g:Un w u m) (k:Int) (hk:bN n m=k) :
  Calls Tryz.prog 44 #[v,u] w fun e w'=>e = .returned (.int .i64 k)∧Ext w w' :=
 (zK w v u n m h g).mono fun e w' ⟨he,hw⟩=>⟨by rw [he,hk],hw⟩
theorem Ig (w:World) (v u:Value) (n m:Nat) (h:Un w v n) (g:Un w u m) (hm:(limbs n).length≤1000000000) (hm2:(limbs m).length≤1000000000) (s:Nat) (hs:n+m=s) :
  Calls Tryz.prog 73 #[v,u] w fun e w'=>∃ z,e = .returned z∧Un w' z s∧Ext w w':=by
 subst hs
 have:=Lj w v u _ _ h g hm hm2
 rw [aJ,aJ] at this
 exact this.mono fun e w' ⟨⟨z,he,hz⟩,hb⟩=>⟨z,he,hz,hb⟩
theorem L8 (w:World) (v u:Value) (n m:Nat) (h:Un w v n) (g:Un w u m) (hm:(limbs n).length≤1000000000) (b:Bool) (hb:decide (m≤n)=b) (d:Nat) (hd:n-m=d) :
  Calls Tryz.prog 140 #[v,u] w fun e w'=>∃ z,e = .returned (.tuple #[z,.bool b])∧Un w' z d∧Ext w w':=by
 subst hd hb
 exact (Lm w v u n m h g hm).mono fun e w' ⟨⟨z,he,hz⟩,hb⟩=>⟨z,he,hz,hb⟩
theorem Hr (w:World) (v:Value) (n:Nat) (k:Int) (h:Un w v n) (hk0:0≤k) (hk1:k≤1000000000) (hl:(limbs n).length≤1000000000) (s:Nat) (hs:n*2^k.toNat=s) :
  Calls Tryz.prog 88 #[v,.int .i64 k] w fun e w'=>∃ u,e = .returned u∧Un w' u s∧Ext w w':=by
 subst hs
 exact (Pm w v n k hk0 hk1 h hl).mono fun e w' ⟨⟨u,he,hu⟩,hb⟩=>⟨u,he,hu,hb⟩
theorem PU (w:World) (v:Value) (n:Nat) (k:Int) (h:Un w v n) (hk0:0≤k) (hk1:k≤1000000000) (hl:(limbs n).length≤1000000000) (s:Nat) (hs:n/2^k.toNat=s) :
  Calls Tryz.prog 145 #[v,.int .i64 k] w fun e w'=>∃ u,e = .returned u∧Un w' u s∧Ext w w':=by
 subst hs
 exact (Pn w v n k hk0 hk1 h hl).mono fun e w' ⟨⟨u,he,hu⟩,hb⟩=>⟨u,he,hu,hb⟩
end Go.Proofs.YtgcieamfidoaoaaGreatDoor
/- Slices of 64-bit words: read, and made by the call itself. -/
namespace Go.Proofs.YtgcieamfidoaoaaGreatDoor
open Go.RowKit
theorem EX:(Tryz.prog.info? 111).map (fun i=>(i.zero,i.size,i.bytes))=some (some (.int .u64 0),1,8):=by kernel_rfl
def V (g:Nat) (w:World) (v:Value) (xs:List Nat):Prop :=
 ∃ (A:Option Addr) (c:Nat),v = .slice A xs.length c∧(xs.length≤c∧xs.length≤9223372036854775807)∧(∀ x∈xs,x<18446744073709551616) ∧
  (0<xs.length→∃ ad,A=some ad∧ad.block<w.heap.size∧ad.block≠g∧∀ j,j<xs.length→w.cell? (ad.add j)=some (.int .u64 (lb xs j:Nat)))
theorem V.lim {g:Nat} {w:World} {v:Value} {xs:List Nat} (h:V g w v xs):∀ x∈xs,x<18446744073709551616:=by
 obtain ⟨A,c,rfl,hc,hx,hr⟩:=h;exact hx
theorem V.keep {g:Nat} {w w':World} {v:Value} {xs:List Nat} (h:V g w v xs) (hs:w.heap.size≤w'.heap.size) (hk:∀ p:Addr,p.block<w.heap.size→p.block≠g→w'.cell? p=w.cell? p):V g w' v xs:=by
 obtain ⟨A,c,rfl,hc,hx,hr⟩:=h
 refine ⟨A,c,rfl,hc,hx,fun h0=>?_⟩
 obtain ⟨ad,hA,hb,hne,hcell⟩:=hr h0
 exact ⟨ad,hA,by omega,hne,fun j hj=>(hk _ (by rw [aL];exact hb) (by rw [aL];exact hne)).trans (hcell j hj)⟩
theorem V.below {g:Nat} {w w':World} {v:Value} {xs:List Nat} (h:V g w v xs) (hb:Ext w w'):V g w' v xs:=h.keep hb.size fun _ hp _=>hb.cell hp
theorem V.but {g:Nat} {w w':World} {v:Value} {xs:List Nat} (h:V g w v xs) (hb:But g w w'):V g w' v xs:=h.keep hb.size fun _ hp hn=>hb.cell hp hn
theorem V.new {g g':Nat} {w:World} {v:Value} {xs:List Nat} (h:V g' w v xs) (hg:w.heap.size≤g):V g w v xs:=by
 obtain ⟨A,c,rfl,hc,hx,hr⟩:=h
 refine ⟨A,c,rfl,hc,hx,fun h0=>?_⟩
 obtain ⟨ad,hA,hb,hne,hcell⟩:=hr h0
 exact ⟨ad,hA,hb,by omega,hcell⟩
theorem V.yX (g:Nat) (w:World) (A:Option Addr) (c:Nat):V g w (.slice A 0 c) []:=⟨A,c,rfl,⟨Nat.zero_le _,Nat.zero_le _⟩,by simp,fun h=>absurd h (by simp)⟩
theorem V.take {g:Nat} {w:World} {A:Option Addr} {n c:Nat} {xs:List Nat} (h:V g w (.slice A n c) xs) {k c':Nat} (hk:k≤n) (hc':k≤c'):V g w (.slice A k c') (xs.take k):=by
 obtain ⟨A,c,hv,hc,hx,hr⟩:=h
 injection hv with h1 h2 h3
 subst h1 h2 h3
 have hlen:(xs.take k).length=k:=by simp;omega
 refine ⟨_,c',by rw [hlen],by omega,fun x hx'=>hx x (List.mem_of_mem_take hx'),fun h0=>?_⟩
 obtain ⟨ad,hA,hb,hne,hcell⟩:=hr (by omega)
 refine ⟨ad,hA,hb,hne,fun j hj=>?_⟩
 rw [hcell j (by omega),jH (by omega)]
theorem V.drop {g:Nat} {w:World} {ad:Addr} {n c:Nat} {xs:List Nat} (h:V g w (.slice (some ad) n c) xs) {k m c':Nat} (hk:k≤n) (hm:n-k=m) (hc':m≤c'):V g w (.slice (some (ad.add k)) m c') (xs.drop k):=by
 obtain ⟨A,c,hv,hc,hx,hr⟩:=h
 injection hv with h1 h2 h3
 subst h1 h2 h3
 have hlen:(xs.drop k).length=m:=by simp;omega
 refine ⟨_,c',by rw [hlen],by omega,fun x hx'=>hx x (List.mem_of_mem_drop hx'),fun h0=>?_⟩
 obtain ⟨ad',hA,hb,hne,hcell⟩:=hr (by omega)
 injection hA with hA
 subst hA
 refine ⟨_,rfl,by rw [aL];exact hb,by rw [aL];exact hne,fun j hj=>?_⟩
 rw [addr_add_add,hcell (k+j) (by omega),Mv]
theorem V.opened {g:Nat} {w:World} {v:Value} {xs:List Nat} (h:V g w v xs) {n:Nat} (hn:xs.length=n) (h0:0<n):∃ ad c,v = .slice (some ad) n c∧n≤c∧ad.block<w.heap.size∧ad.block≠g∧∀ j,j<n→w.cell? (ad.add j)=some (.int .u64 (lb xs j:Nat)):=by
 subst hn
 obtain ⟨A,c,rfl,hc,hx,hr⟩:=h
 obtain ⟨ad,rfl,hb,hne,hcell⟩:=hr h0
 exact ⟨ad,c,rfl,hc.1,hb,hne,hcell⟩
theorem V.shape {g:Nat} {w:World} {v:Value} {xs:List Nat} (h:V g w v xs):∃ A c,v = .slice A xs.length c∧xs.length≤c:=by
 obtain ⟨A,c,rfl,hc,_⟩:=h;exact ⟨A,c,rfl,hc.1⟩
def Pb (o:List Nat):List Value:=o.map fun x=>Value.int .u64 (x:Nat)
theorem V3 (o:List Nat) {j:Nat} (h:j<o.length):(Pb o)[j]?=some (.int .u64 (lb o j:Nat)):=by
 unfold Pb lb;simp [h]
theorem V4 (a:List Nat) (i x:Nat):Pb (a.set i x)=(Pb a).set i (.int .u64 (x:Nat)):=by simp [Pb,List.map_set]
theorem Pd (k:Nat):Pb (List.replicate k 0)=List.replicate k (.int .u64 0):=by simp [Pb]
def Ow (w:World) (base:Nat) (v:Value) (o:List Nat):Prop:=w.ownsRow base 111 1 v o.length (Pb o)
theorem Ow.caps {w:World} {base g n c:Nat} {o:List Nat} (h:Ow w base (.slice (some ⟨g,0,none⟩) n c) o):n=o.length∧n≤c∧c≤maxLen:=by
 rcases h.2 with ⟨h1,_⟩ | ⟨g',cap,cur,h1,hg,hh,h2,h3,h4,h5⟩
 · cases h1
 · injection h1 with e1 e2 e3
   subst e2 e3
   exact ⟨rfl,h2,h3⟩
theorem Ow.block {w:World} {base g n c:Nat} {o:List Nat} (h:Ow w base (.slice (some ⟨g,0,none⟩) n c) o):base≤g∧g<w.heap.size:=by
 have h0:w.ownsRow base 111 1 (.slice (some ⟨g,0,none⟩) n c) o.length (Pb o):=h
 exact h0.lt g rfl
theorem Ow.cell {w:World} {base g n c:Nat} {o:List Nat} (h:Ow w base (.slice (some ⟨g,0,none⟩) n c) o) {j:Nat} (hj:j<n):w.cell? ⟨g,j,none⟩=some (.int .u64 (lb o j:Nat)):=by
 obtain ⟨e,_,_⟩:=h.caps
 subst e
 have h0:w.ownsRow base 111 1 (.slice (some ⟨g,0,none⟩) o.length c) o.length (Pb o):=h
 rw [World.ownsRow.cellAt h0 j (by omega)];exact V3 o hj
theorem Ow.frozen {w:World} {base g n c:Nat} {o:List Nat} (h:Ow w base (.slice (some ⟨g,0,none⟩) n c) o) (j:Nat):w.frozen? ⟨g,j,none⟩=false:=by
 obtain ⟨e,_,_⟩:=h.caps
 subst e
 have h0:w.ownsRow base 111 1 (.slice (some ⟨g,0,none⟩) o.length c) o.length (Pb o):=h
 exact World.ownsRow.frozenAt h0 j
theorem Ow.qO {w:World} {base g n c:Nat} {o:List Nat} (h:Ow w base (.slice (some ⟨g,0,none⟩) n c) o) (j x:Nat):Ow (w.setCell ⟨g,j,none⟩ (.int .u64 (x:Nat))) base (.slice (some ⟨g,0,none⟩) n c) (o.set j x):=by
 obtain ⟨e,_,_⟩:=h.caps
 subst e
 have h0:w.ownsRow base 111 1 (.slice (some ⟨g,0,none⟩) o.length c) o.length (Pb o):=h
 have:=(World.ownsRow.stored h0 j (.int .u64 (x:Nat))).1
 unfold Ow
 rw [V4,List.length_set]
 exact this
theorem Ow.drew {w:World} {base:Nat} {v:Value} {o:List Nat} (h:Ow w base v o):Ow w.drew base v o:=h
theorem Ow.below {w w':World} {base B:Nat} {v:Value} {o:List Nat} (h:Ow w base v o) (hB:Below B w w') (hv:∀ g,v.ownBlock=some g→g<B):Ow w' base v o:=by
 refine ⟨h.1,?_⟩
 rcases h.2 with hn | ⟨g,cap,cur,rfl,hb,hgg,rest⟩
 · exact .inl hn
 · refine .inr ⟨g,cap,cur,rfl,hb,?_,rest⟩
   rw [hB.block g (hv g rfl)]
   exact hgg
theorem Ow.ext {w w':World} {base g n c:Nat} {o:List Nat} (h:Ow w base (.slice (some ⟨g,0,none⟩) n c) o) (hB:Ext w w'):Ow w' base (.slice (some ⟨g,0,none⟩) n c) o :=
 h.below hB fun g' e=>by have h2:=h.block.2;have e':g=g':=Option.some.inj e;omega
theorem Ow.but {w w':World} {base g q n c:Nat} {o:List Nat} (h:Ow w base (.slice (some ⟨g,0,none⟩) n c) o) (hb:But q w w') (hne:g≠q):Ow w' base (.slice (some ⟨g,0,none⟩) n c) o:=by
 have hlt:=h.block.2
 refine ⟨h.1,?_⟩
 rcases h.2 with hn | ⟨q',cap,cur,e,hbq,hgg,rest⟩
 · exact .inl hn
 · injection e with e1 e2 e3
   injection e1 with e1
   injection e1 with e1
   subst e1
   refine .inr ⟨g,cap,cur,by rw [e2,e3],hbq,?_,rest⟩
   rw [hb.block g hlt (fun e=>hne (by injection e))]
   exact hgg
theorem Ow.uG {w:World} {base base':Nat} {v:Value} {o:List Nat} (h:Ow w base v o) (hb:base'≤base):Ow w base' v o:=by
 refine ⟨h.1,?_⟩
 rcases h.2 with hn | ⟨g,cap,cur,rfl,hg,rest⟩
 · exact .inl hn
 · exact .inr ⟨g,cap,cur,rfl,by omega,rest⟩
theorem Ow.zeros {w:World} {base g:Nat} {n:Nat} (h:w.ownsRow base 111 1 (.slice (some ⟨g,0,none⟩) n n) n (madeCells (Value.int .u64 0).cells (n*1)).toList) :
  Ow w base (.slice (some ⟨g,0,none⟩) n n) (List.replicate n 0):=by
 have e:(madeCells (Value.int .u64 0).cells (n*1)).toList=Pb (List.replicate n 0):=by
  rw [Pd,Nat.mul_one];exact toList_madeCells_one _ _
 rw [e] at h
 unfold Ow
 rw [List.length_replicate]
 exact h
theorem Ow.ZX {w:World} {base g n c:Nat} {o:List Nat} (h:Ow w base (.slice (some ⟨g,0,none⟩) n c) o) (hx:∀ x∈o,x<18446744073709551616) (q:Nat) (hq:g≠q):V q w (.slice (some ⟨g,0,none⟩) n c) o:=by
 obtain ⟨e,h1,h2⟩:=h.caps
 subst e
 refine ⟨_,c,rfl,⟨h1,by unfold maxLen at h2;omega⟩,hx,fun h0=>⟨_,rfl,h.block.2,hq,fun j hj=>?_⟩⟩
 rw [D7];exact h.cell hj
theorem Ext.but {g:Nat} {a b c:World} (h:Ext a b) (k:But g b c) (hg:a.heap.size≤g):Ext a c:=Below.trans h (k.below hg h.size)
end Go.Proofs.YtgcieamfidoaoaaGreatDoor
/- Limbs as words, and back. -/
namespace Go.Proofs.YtgcieamfidoaoaaGreatDoor
open Go.RowKit
theorem u64_or32 (x y z:Nat) (hx:x<4294967296) (hy:y<4294967296) (hz:x+4294967296*y=z):bits .or .u64 (x:Int) ((4294967296*y:Nat):Int)=(z:Int):=by
 rw [u64_or_nat _ _ (by omega) (by omega),Nat.or_comm,nat_join 32 _ x (Nat.mul_mod_right _ _) hx]
 omega
structure XD (xs:List Nat) (m i:Nat) (o:List Nat):Prop where
 len:o.length=m
 at_:∀ j,j<i→lb o j=lb (jW xs) j
theorem XD.step {xs:List Nat} {m i:Nat} {o:List Nat} (h:XD xs m i o) (hi:i<m) (x:Nat) (hx:lb (jW xs) i=x):XD xs m (i+1) (o.set i x):=by
 refine ⟨by simp [h.len],fun j hj=>?_⟩
 rw [BA _ _ _ _ (by rw [h.len];exact hi)]
 by_cases e:i=j
 · rw [if_pos e,← e,hx]
 · rw [if_neg e];exact h.at_ j (by omega)
theorem XD.done {xs:List Nat} {m:Nat} {o:List Nat} (h:XD xs m m o) (hm:(jW xs).length=m):o=jW xs :=
 vZ (by rw [h.len,hm]) fun j hj=>h.at_ j (by rw [← h.len];exact hj)
set_option maxRecDepth 100000 in
theorem Dt (w:World) (v:Value) (xs:List Nat) (h:U w v xs) (hl:xs.length≤1000000) (m:Nat) (hm:(xs.length+1)/2=m) :
  Calls Tryz.prog 153 #[v] w fun e w'=>e = .returned (.slice (some ⟨w.heap.size,0,none⟩) m m)∧Ow w' w.heap.size (.slice (some ⟨w.heap.size,0,none⟩) m m) (jW xs)∧Ext w w':=by
 obtain ⟨A,c,rfl,⟨hc,hmx⟩,hx,hr⟩:=h
 obtain ⟨i0,hi,hz0,hz1,hz2⟩:=info_parts EX
 obtain ⟨n,hn⟩:∃ n,xs.length=n:=⟨_,rfl⟩
 rw [hn] at hc hmx hr hl hm ⊢
 have HM:Hid ((jW xs).length=m):=by rw [Hid,oz,hn];exact hm
 have HN:=Lib.hid hn
 have HXL:=Lib.hid (xh xs)
 have ZV:((n:Int)+1)/2=(m:Int):=by omega
 obtain ⟨q,hq⟩:∃ q,n/2=q:=⟨_,rfl⟩
 have hqi:(n:Int)/2=(q:Int):=by omega
 obtain ⟨B,hB⟩:∃ B,w.heap.size=B:=⟨_,rfl⟩
 rw [hB]
 have yM:=Lib.hid hB
 have hm1:m≤1000000:=by omega
 clear hn
 go_enter Tryz.func153,Tryz.ntmps153
 go_wp2_with (at_make;refine wpList_make_full _ rfl _ _ 145 rfl w.heap.size 111 i0 (.int .u64 0) 1 Tryz.underlying145 hi hz0 hz1 _ _ _ _ m rfl rfl (by omega) (by omega) (by rw [hz2];omega) (by unfold maxLen;omega) (Nat.le_refl _) ?_;intro w1 hown hgrow)
 have ho0:=Ow.zeros hown
 have hE0:Ext w w1:=(Ext.refl w).grown hgrow (Nat.le_refl _) (fun _ h=>by cases h)
 rw [hB] at ho0
 clear hown hgrow hi hz0 hz1 hz2 i0
 go_wp2
 go_loopw [13] (fun t wr=>∃ (i:Nat) (o:List Nat),i≤q∧t = .int .i64 (i:Nat)∧Hid (XD xs m i o)∧Ow wr B (.slice (some ⟨B,0,none⟩) m m) o∧Ext w wr) (fun t _=>q-(intOf t).toNat)
 case atStart=>exact ⟨0,_,Nat.zero_le _,rfl,⟨by simp,fun j hj=>absurd hj (by omega)⟩,ho0,hE0⟩
 case round =>
  clear ho0 hE0
  obtain ⟨i,o,hiq,rfl,HO,hown,hE⟩:=hrel
  by_cases hlt:i<q
  · obtain ⟨ad,rfl,hb,hcell⟩:=hr (by omega)
    have hc0:=(hE.cell (p:=ad.add (2*i)) (by rw [aL];exact hb)).trans (hcell (2*i) (by omega))
    have hc1:=(hE.cell (p:=ad.add (2*i+1)) (by rw [aL];exact hb)).trans (hcell (2*i+1) (by omega))
    rw [U9 _ (2*i+1) (by omega)] at hc1
    have hb0:=dz hx (2*i)
    have hb1:=dz hx (2*i+1)
    have hz:=HXL.out i
    obtain ⟨x,hx0⟩:∃ x,lb xs (2*i)=x:=⟨_,rfl⟩
    obtain ⟨y,hy0⟩:∃ y,lb xs (2*i+1)=y:=⟨_,rfl⟩
    rw [hx0] at hc0 hb0 hz
    rw [hy0] at hc1 hb1 hz
    obtain ⟨z,hzz⟩:∃ z,x+4294967296*y=z:=⟨_,rfl⟩
    rw [hzz] at hz
    have hor:=u64_or32 x y z hb0 hb1 hzz
    have hyi:(y:Int)*4294967296=((4294967296*y:Nat):Int):=by omega
    have hyw:IntKind.u64.wrap ((4294967296*y:Nat):Int)=((4294967296*y:Nat):Int):=by rw [IntKind.wrap_u64];omega
    have hym:((4294967296*y:Nat):Int)%18446744073709551616=((4294967296*y:Nat):Int):=by omega
    have hxw:IntKind.u64.wrap (x:Int)=(x:Int):=by rw [IntKind.wrap_u64];omega
    have ajM:IntKind.u64.wrap (y:Int)=(y:Int):=by rw [IntKind.wrap_u64];omega
    have hf:=hown.frozen i
    have hcz:=hown.cell (j:=i) (by omega)
    have hown2:=hown.qO i z
    have hE2:=hE.setCell (p:=⟨B,i,none⟩) (by rw [hB];exact Nat.le_refl _) (.int .u64 (z:Nat))
    have HST:Hid (XD xs m (i+1) (o.set i z)):=HO.out.step (by omega) z hz
    generalize 4294967296*y=y2 at *
    have h2a:(0:Int)≤2*(i:Int):=by omega
    have h2b:2*(i:Int)<(n:Int):=by omega
    have h2c:2*(i:Int)+1<(n:Int):=by omega
    have h2d:(2*(i:Int)).toNat=2*i:=by omega
    have h2e:(2*(i:Int)+1).toNat=2*i+1:=by omega
    have h2f:(i:Int)<(m:Int):=by omega
    have hbn:(ad.add (2*i)).block≠B:=by rw [aL];omega
    have ajN:ad.block≠B:=by omega
    clear hx0 hy0 hz hzz hb0 hb1 hown HO hE
    go_wp2
    go_region
    all_goals
     go_wp2
     go_roundw
     case rel=>exact ⟨i+1,_,by omega,by go_num,HST,hown2.drew,hE2.drew⟩
     case measure=>simp [intOf];omega
  · obtain rfl:i=q:=by omega
    by_cases hodd:n%2=1
    · have hmm:m=i+1:=by omega
      have hm2:(n:Int).tmod 2=1:=by rw [Int.tmod_eq_emod_of_nonneg (by omega)];omega
      have ZY:(n:Int)%2=1:=by omega
      obtain ⟨ad,rfl,hb,hcell⟩:=hr (by omega)
      have hc0:=(hE.cell (p:=ad.add (2*i)) (by rw [aL];exact hb)).trans (hcell (2*i) (by omega))
      have hz:=HXL.out i
      rw [oI (o:=xs) (j:=2*i+1) (by rw [HN.out];omega),Nat.mul_zero,Nat.add_zero] at hz
      have hb0:=dz hx (2*i)
      obtain ⟨x,hx0⟩:∃ x,lb xs (2*i)=x:=⟨_,rfl⟩
      rw [hx0] at hc0 hb0 hz
      have hxw:IntKind.u64.wrap (x:Int)=(x:Int):=by rw [IntKind.wrap_u64];omega
      have hf:=hown.frozen i
      have hcz:=hown.cell (j:=i) (by omega)
      have hown2:=hown.qO i x
      have hE2:=hE.setCell (p:=⟨B,i,none⟩) (by rw [hB];exact Nat.le_refl _) (.int .u64 (x:Nat))
      have HST:Hid (XD xs m (i+1) (o.set i x)):=HO.out.step (by omega) x hz
      rw [← hmm] at HST
      have hdone:=HST.out.done HM.out
      rw [hdone] at hown2
      have e1:(n:Int)-1=((2*i:Nat):Int):=by omega
      have e2:(m:Int)-1=(i:Int):=by omega
      have e3:2*i<n:=by omega
      have e4:i<m:=by omega
      clear hx0 hz hb0 hown HO hE hdone HST
      go_wp2
      go_ret
      exact ⟨rfl,hown2,hE2⟩
    · have hmm:m=i:=by omega
      have hm2:(n:Int).tmod 2=0:=by rw [Int.tmod_eq_emod_of_nonneg (by omega)];omega
      have ZY:(n:Int)%2=0:=by omega
      subst hmm
      have hdone:=HO.out.done HM.out
      rw [hdone] at hown
      clear hdone HO
      go_wp2
      go_ret
      exact ⟨rfl,hown,hE⟩
theorem yG (w:World) (v:Value) (xs:List Nat) (h:U w v xs) :
  Calls Tryz.prog 154 #[v] w fun e w'=>(∃ u,e = .returned u∧Un w u (val xs))∧w=w':=by
 have h':=h
 obtain ⟨A,c,rfl,⟨hc,hm⟩,hx,hr⟩:=h
 go_enter Tryz.func154,Tryz.ntmps154
 go_wp2
 go_loop [3] (fun n=>∃ k:Nat,k≤xs.length∧n = .int .i64 k∧Hid (∀ j,k≤j→j<xs.length→lb xs j=0)) (fun n=>(intOf n).toNat)
 case atStart=>exact ⟨xs.length,Nat.le_refl _,rfl,fun j h1 h2=>by omega⟩
 case round =>
  obtain ⟨k,hk,rfl,hz⟩:=hrel
  have hfin:∀ c',k≤c'→(0<k→lb xs (k-1)≠0)→Un w (.slice A k c') (val xs):=fun c' h1 h2=>by
   unfold Un;rw [xx xs k hx hk hz.out h2];exact h'.take hk h1
  rcases Nat.eq_zero_or_pos k with rfl | h0
  · have HF:=Lib.hid (hfin 0 (Nat.le_refl _) (fun h=>absurd h (by omega)))
    clear hfin
    go_wp2
    go_ways
    go_ret
    exact ⟨⟨_,rfl,HF.out⟩,rfl⟩
  · obtain ⟨ad,rfl,hb,hcell⟩:=hr (by omega)
    have hc1:=hcell (k-1) (by omega)
    by_cases hx0:lb xs (k-1)=0
    · have ht:((((lb xs (k-1):Nat)):Int)==0)=true:=by rw [hx0];rfl
      have HX:=Lib.hid hx0
      clear hx0
      go_wp2
      go_round
      case rel=>exact ⟨k-1,by omega,by go_num,fun j h1 h2=>by
       rcases Nat.lt_or_ge j k with h3 | h3
       · have:j=k-1:=by omega
         subst this;exact HX.out
       · exact hz.out j h3 h2⟩
      case measure=>simp [intOf];omega
    · have ht:((((lb xs (k-1):Nat)):Int)==0)=false:=by rw [beq_eq_false_iff_ne];omega
      have HF:=Lib.hid (hfin k (Nat.le_refl _) (fun _=>hx0))
      clear hfin hx0
      go_wp2
      go_ret
      exact ⟨⟨_,rfl,HF.out⟩,rfl⟩
structure TU (ws:List Nat) (m i:Nat) (o:List Nat):Prop where
 len:o.length=m
 at_:∀ j,j<2*i→lb o j=lb (fK ws) j
theorem TU.step {ws:List Nat} {m i:Nat} {o:List Nat} (h:TU ws m i o) (hi:2*i+1<m) (x:Nat) (hx:lb ws i=x):TU ws m (i+1) ((o.set (2*i) (x%4294967296)).set (2*i+1) (x/4294967296)):=by
 refine ⟨by simp [h.len],fun j hj=>?_⟩
 have hu:=K9 ws i
 rw [hx] at hu
 rw [BA _ _ _ _ (by rw [List.length_set,h.len];exact hi),BA _ _ _ _ (by rw [h.len];omega)]
 by_cases e:2*i+1=j
 · rw [if_pos e,← e,hu.2]
 · rw [if_neg e]
   by_cases e2:2*i=j
   · rw [if_pos e2,← e2,hu.1]
   · rw [if_neg e2];exact h.at_ j (by omega)
theorem TU.done {ws:List Nat} {m i:Nat} {o:List Nat} (h:TU ws m i o) (hm:(fK ws).length=m) (hi:2*i=m):o=fK ws :=
 vZ (by rw [h.len,hm]) fun j hj=>h.at_ j (by rw [hi,← h.len];exact hj)
set_option maxRecDepth 100000 in
theorem GK (w:World) (g0:Nat) (v:Value) (ws:List Nat) (h:V g0 w v ws) (hl:ws.length≤1000000) :
  Calls Tryz.prog 151 #[v] w fun e w'=>(∃ u,e = .returned u∧Un w' u (bU ws))∧Ext w w':=by
 obtain ⟨A,c,rfl,⟨hc,hmx⟩,hx,hr⟩:=h
 obtain ⟨i0,hi,hz0,hz1,hz2⟩:=info_parts oJ
 obtain ⟨n,hn⟩:∃ n,ws.length=n:=⟨_,rfl⟩
 rw [hn] at hc hmx hr hl ⊢
 obtain ⟨m,hm⟩:∃ m,2*n=m:=⟨_,rfl⟩
 have HM:Hid ((fK ws).length=m):=by rw [Hid,zO,hn];exact hm
 have ZV:(2:Int)*(n:Int)=(m:Int):=by omega
 obtain ⟨B,hB⟩:∃ B,w.heap.size=B:=⟨_,rfl⟩
 have hm1:m≤2000000:=by omega
 have HW:=Lib.hid (BI ws hx)
 have HV:=Lib.hid (zP ws)
 have HTR:=Lib.hid (fun W v h=>yG W v (fK ws) h)
 clear hn
 go_enter Tryz.func151,Tryz.ntmps151
 go_wp2_with (at_make;refine wpList_make_full _ rfl _ _ 24 rfl w.heap.size 57 i0 (.int .u32 0) 1 Tryz.underlying24 hi hz0 hz1 _ _ _ _ m rfl rfl (by omega) (by omega) (by rw [hz2];omega) (by unfold maxLen;omega) (Nat.le_refl _) ?_;intro w1 hown hgrow)
 have ho0:Own w1 w.heap.size (.slice (some ⟨w.heap.size,0,none⟩) m m) (List.replicate m 0):=by
  have:=Own.zeros hown
  rwa [List.length_replicate] at this
 have hE0:Ext w w1:=(Ext.refl w).grown hgrow (Nat.le_refl _) (fun _ h=>by cases h)
 rw [hB] at ho0
 clear hown hgrow hi hz0 hz1 hz2 i0
 go_wp2
 go_loopw [12] (fun t wr=>∃ (i:Nat) (o:List Nat),i≤n∧t = .int .i64 (i:Nat)∧Hid (TU ws m i o)∧Own wr B (.slice (some ⟨B,0,none⟩) m m) o∧Ext w wr) (fun t _=>n-(intOf t).toNat)
 case atStart=>exact ⟨0,_,Nat.zero_le _,rfl,⟨by simp,fun j hj=>absurd hj (by omega)⟩,ho0,hE0⟩
 case round =>
  clear ho0 hE0
  obtain ⟨i,o,hiq,rfl,HO,hown,hE⟩:=hrel
  by_cases hlt:i<n
  · obtain ⟨ad,rfl,hb,hne,hcell⟩:=hr (by omega)
    have hc0:=(hE.cell (p:=ad.add i) (by rw [aL];exact hb)).trans (hcell i hlt)
    have hb0:lb ws i<18446744073709551616:=fQ (by decide) hx i
    obtain ⟨x,hx0⟩:∃ x,lb ws i=x:=⟨_,rfl⟩
    rw [hx0] at hc0 hb0
    have HST:Hid (TU ws m (i+1) ((o.set (2*i) (x%4294967296)).set (2*i+1) (x/4294967296))):=HO.out.step (by omega) x hx0
    have hol:=HO.out.len
    have hf0:=hown.frozen' (2*i)
    have hf1:=hown.frozen' (2*i+1)
    have hk0:=hown.rd.2 (2*i) (by omega)
    have hk1:=hown.rd.2 (2*i+1) (by omega)
    have hown2:=(hown.set' (2*i) (x%4294967296)).set' (2*i+1) (x/4294967296)
    have hE2:=(hE.setCell (p:=⟨B,2*i,none⟩) (by rw [hB];exact Nat.le_refl _) (.int .u32 (x%4294967296:Nat))).setCell (p:=⟨B,2*i+1,none⟩) (by rw [hB];exact Nat.le_refl _) (.int .u32 (x/4294967296:Nat))
    obtain ⟨x0,PR⟩:∃ x0,x%4294967296=x0:=⟨_,rfl⟩
    obtain ⟨x1,PS⟩:∃ x1,x/4294967296=x1:=⟨_,rfl⟩
    rw [PR,PS] at HST hown2 hE2
    have f0:IntKind.u32.wrap (x:Int)=(x0:Int):=by rw [IntKind.wrap_u32];omega
    have f00:(x:Int)%4294967296=(x0:Int):=by omega
    have f1:(x:Int)/4294967296=(x1:Int):=by omega
    have TV:x1<4294967296:=by omega
    have f2:IntKind.u32.wrap (x1:Int)=(x1:Int):=by rw [IntKind.wrap_u32];omega
    have f3:(x1:Int)%4294967296=(x1:Int):=by omega
    have h2a:(0:Int)≤2*(i:Int):=by omega
    have h2b:2*(i:Int)<(m:Int):=by omega
    have h2c:2*(i:Int)+1<(m:Int):=by omega
    have h2d:(2*(i:Int)).toNat=2*i:=by omega
    have h2e:(2*(i:Int)+1).toNat=2*i+1:=by omega
    have hbn:(ad.add i).block≠B:=by rw [aL];omega
    clear hx0 hb0 PR PS hown HO hE hol
    go_wp2
    go_roundw
    case rel=>exact ⟨i+1,_,by omega,by go_num,HST,hown2,hE2⟩
    case measure=>simp [intOf];omega
  · obtain rfl:i=n:=by omega
    have hdone:=HO.out.done HM.out hm
    rw [hdone] at hown
    have hu:=hown.BJ HW.out (by rw [HM.out];omega)
    clear hdone HO hown
    go_wp2_with (fail)
    refine (HTR.out _ _ hu).mono ?_
    rintro e w2 ⟨⟨u,rfl,hu2⟩,rfl⟩
    rw [HV.out] at hu2
    have HF:Hid (∃ u',Ending.returned u = .returned u'∧Un wr u' (bU ws)):=⟨_,rfl,hu2⟩
    clear hu2 hu
    go_wp2
    go_ret
    exact ⟨HF.out,hE⟩
end Go.Proofs.YtgcieamfidoaoaaGreatDoor
/- Words added to a row, and taken away from it. -/
namespace Go.Proofs.YtgcieamfidoaoaaGreatDoor
open Go.RowKit
theorem BH (x y c s d:Nat) (hc:c≤1) (hs:(x+y+c)%18446744073709551616=s) (hd:(x+y+c)/18446744073709551616=d) (w:World) :
  (callFunc 172 #[.int .u64 (x:Nat),.int .u64 (y:Nat),.int .u64 (c:Nat)]).run Tryz.prog w = .ok (.value (.tuple #[.int .u64 (s:Nat),.int .u64 (d:Nat)])) w:=by
 rw [run_callFunc_extern Tryz.func172 (by kernel_rfl) (by kernel_rfl) (by kernel_rfl) (e:=add64Entry) (by kernel_rfl),run_add64 x y c (by omega) (by omega) (by omega) (by omega),← hs,← hd]
 simp only [Result.andThen]
 congr 5<;>omega
theorem Hl (x y b s d:Nat) (hb:b≤1) (hs:(x+18446744073709551616-y-b)%18446744073709551616=s) (hd:(if x<y+b then 1 else 0)=d) (w:World) :
  (callFunc 227 #[.int .u64 (x:Nat),.int .u64 (y:Nat),.int .u64 (b:Nat)]).run Tryz.prog w = .ok (.value (.tuple #[.int .u64 (s:Nat),.int .u64 (d:Nat)])) w:=by
 rw [run_callFunc_extern Tryz.func227 (by kernel_rfl) (by kernel_rfl) (by kernel_rfl) (e:=sub64Entry) (by kernel_rfl),run_sub64 x y b hb,hs,hd]
 rfl
structure TL (n off:Nat) (A:Nat) (i:Nat) (o:List Nat) (cy:Nat):Prop where
 len:o.length=n
 lt:∀ x∈o,x<18446744073709551616
 Bz:cy≤1
 val:bU o+BB^(off+i)*cy=A
theorem TL.step {n off A i:Nat} {o:List Nat} {cy:Nat} (h:TL n off A i o cy) (hi:off+i<n) (y s d:Nat) (hy:y<18446744073709551616)
  (hs:(lb o (off+i)+y+cy)%18446744073709551616=s) (hd:(lb o (off+i)+y+cy)/18446744073709551616=d):TL n off (A+BB^(off+i)*y) (i+1) (o.set (off+i) s) d:=by
 have hx:lb o (off+i)<18446744073709551616:=fQ (by decide) h.lt _
 have h1:=h.Bz
 refine ⟨by simp [h.len],iQ h.lt (by omega),by omega,?_⟩
 rw [← Nat.add_assoc,Nat.pow_succ]
 exact EP _ _ _ _ _ _ _ _ _ (nX o (off+i) s (by rw [h.len];exact hi)) h.val (by unfold BB;omega)
structure SbI (n off:Nat) (A T:Nat) (i:Nat) (o:List Nat) (cy:Nat):Prop where
 len:o.length=n
 lt:∀ x∈o,x<18446744073709551616
 Bz:cy≤1
 val:bU o+T=A+BB^(off+i)*cy
theorem SbI.step {n off A T i:Nat} {o:List Nat} {cy:Nat} (h:SbI n off A T i o cy) (hi:off+i<n) (y s d:Nat) (hy:y<18446744073709551616)
  (hs:(lb o (off+i)+18446744073709551616-y-cy)%18446744073709551616=s) (hd:(if lb o (off+i)<y+cy then 1 else 0)=d):SbI n off A (T+BB^(off+i)*y) (i+1) (o.set (off+i) s) d:=by
 have hx:lb o (off+i)<18446744073709551616:=fQ (by decide) h.lt _
 have h1:=h.Bz
 have hd1:d≤1:=by rw [← hd];split<;>omega
 refine ⟨by simp [h.len],iQ h.lt (by omega),hd1,?_⟩
 rw [show off+(i+1)=off+i+1 from rfl,Nat.pow_succ]
 refine Ed _ _ _ _ _ _ _ _ _ _ (nX o (off+i) s (by rw [h.len];exact hi)) h.val ?_
 unfold BB
 split at hd<;>omega
end Go.Proofs.YtgcieamfidoaoaaGreatDoor
/- Rows of words multiplied, word by word. -/
namespace Go.Proofs.YtgcieamfidoaoaaGreatDoor
open Go.RowKit
theorem XN {x y:Nat} (hx:x<18446744073709551616) (hy:y<18446744073709551616):x*y≤340282366920938463426481119284349108225:=by
 calc x*y≤18446744073709551615*18446744073709551615:=Nat.mul_le_mul (by omega) (by omega)
  _=_:=by decide
theorem Td (t z cr hi lo s1 c1 s2 c2:Nat) (ht:t≤340282366920938463426481119284349108225) (hz:z<18446744073709551616) (hc:cr<18446744073709551616)
  (h1:t/18446744073709551616=hi) (h2:t%18446744073709551616=lo) (h3:(lo+z)%18446744073709551616=s1) (h4:(lo+z)/18446744073709551616=c1)
  (h5:(s1+cr)%18446744073709551616=s2) (h6:(s1+cr)/18446744073709551616=c2):z+t+cr=s2+BB*(hi+c1+c2)∧hi+c1+c2<18446744073709551616∧c1≤1∧c2≤1∧s1<18446744073709551616∧s2<18446744073709551616∧lo<18446744073709551616:=by
 unfold BB
 have e1:t=18446744073709551616*hi+lo:=by omega
 have e2:lo+z=18446744073709551616*c1+s1:=by omega
 have e3:s1+cr=18446744073709551616*c2+s2:=by omega
 have b1:lo<18446744073709551616:=by omega
 have b2:s1<18446744073709551616:=by omega
 have b3:s2<18446744073709551616:=by omega
 clear h1 h2 h3 h4 h5 h6
 refine ⟨by omega,by omega,by omega,by omega,b2,b3,b1⟩
structure RwI (o0:List Nat) (n off:Nat) (A:Nat) (i:Nat) (o:List Nat) (cy:Nat):Prop where
 len:o.length=n
 lt:∀ x∈o,x<18446744073709551616
 Bz:cy<18446744073709551616
 val:bU o+BB^(off+i)*cy=A
 out:∀ m,off+i≤m→lb o m=lb o0 m
theorem RwI.step {o0:List Nat} {n off A i:Nat} {o:List Nat} {cy:Nat} (h:RwI o0 n off A i o cy) (hi:off+i<n) (t s d:Nat)
  (hs:lb o (off+i)+t+cy=s+BB*d) (hsb:s<18446744073709551616) (hd:d<18446744073709551616):RwI o0 n off (A+BB^(off+i)*t) (i+1) (o.set (off+i) s) d:=by
 refine ⟨by simp [h.len],iQ h.lt hsb,hd,?_,fun m hm=>?_⟩
 · rw [← Nat.add_assoc,Nat.pow_succ]
   exact EP _ _ _ _ _ _ _ _ _ (nX o (off+i) s (by rw [h.len];exact hi)) h.val hs
 · rw [dA _ (by omega)];exact h.out m (by omega)
set_option maxRecDepth 100000 in
theorem Pe (w:World) (g base n c off zc:Nat) (o gV:List Nat) (va:Value) (yv:Nat) (hyv:yv<18446744073709551616) (hown:Ow w base (.slice (some ⟨g,0,none⟩) n c) o) (ho:∀ x∈o,x<18446744073709551616)
  (na:Nat) (hna:gV.length=na) (hz:off+na+1≤n) (hzc:na+1≤zc) (hn:n≤1000000) (ha:V g w va gV) (h0:lb o (off+na)=0) :
  Calls Tryz.prog 169 #[.slice (some ⟨g,off,none⟩) (na+1:Nat) zc,va,.int .u64 (yv:Nat)] w fun e w'=>e = .returned (.tuple #[])∧(∃ o',Ow w' base (.slice (some ⟨g,0,none⟩) n c) o'∧bU o'=bU o+BB^off*(bU gV*yv)∧(∀ x∈o',x<18446744073709551616)∧∀ m,off+na<m→lb o' m=lb o m)∧But g w w':=by
 have hlim:=ha.lim
 obtain ⟨A,ca,rfl,⟨hca,hma⟩,hx,hr⟩:=id ha
 have hcap:=hown.caps
 have hgb:=hown.block.2
 have HN:=Lib.hid hna
 have H0:=Lib.hid h0
 have HS:Hid (RwI o n off (bU o+BB^off*(bU (gV.take 0)*yv)) 0 o 0):=⟨hcap.1.symm,ho,by decide,by simp [bU],fun m _=>rfl⟩
 have ZU:=Lib.hid (fun k=>ji gV k)
 have HT2:Hid (gV.take na=gV):=by rw [Hid,← hna];exact List.take_length
 rw [hna] at hca hma hr ⊢
 have hB0:=But.refl g w
 have ajO:((na+1:Nat):Int)=(na:Int)+1:=by omega
 clear ha hna hcap ho h0
 go_enter Tryz.func169,Tryz.ntmps169
 go_wp2
 go_loopw [20,6] (fun t s wr=>∃ (i:Nat) (o':List Nat) (cy:Nat),i≤na∧t = .int .i64 (i:Nat)∧s = .int .u64 (cy:Nat)∧Hid (RwI o n off (bU o+BB^off*(bU (gV.take i)*yv)) i o' cy)∧Ow wr base (.slice (some ⟨g,0,none⟩) n c) o'∧But g w wr) (fun t _ _=>na-(intOf t).toNat)
 case atStart=>exact ⟨0,o,0,Nat.zero_le _,rfl,rfl,HS,hown,hB0⟩
 case round =>
  clear HS hown hB0
  obtain ⟨i,o',cy,hi,rfl,rfl,HO,hown,hB⟩:=hrel
  by_cases hlt:i<na
  · obtain ⟨ad,rfl,hb,hne,hcell⟩:=hr (by omega)
    have hc0:=(hB.cell (p:=ad.add i) (by rw [aL];exact hb) (by rw [aL];exact hne)).trans (hcell i hlt)
    have hy:lb gV i<18446744073709551616:=fQ (by decide) hx i
    have htk:=ZU.out i (by rw [HN.out];exact hlt)
    have hcz:=hown.cell (j:=off+i) (by omega)
    have hf:=hown.frozen (off+i)
    have hx1:lb o' (off+i)<18446744073709551616:=fQ (by decide) HO.out.lt _
    have hcy:=HO.out.Bz
    obtain ⟨x,BG⟩:∃ x,lb gV i=x:=⟨_,rfl⟩
    rw [BG] at hc0 hy htk
    obtain ⟨z,hzz⟩:∃ z,lb o' (off+i)=z:=⟨_,rfl⟩
    rw [hzz] at hcz hx1
    obtain ⟨t,ht⟩:∃ t,x*yv=t:=⟨_,rfl⟩
    have ht1:t≤340282366920938463426481119284349108225:=by rw [← ht];exact XN hy hyv
    obtain ⟨Te,hhi⟩:∃ Te,t/18446744073709551616=Te:=⟨_,rfl⟩
    obtain ⟨lo,hlo⟩:∃ lo,t%18446744073709551616=lo:=⟨_,rfl⟩
    obtain ⟨s1,hs1⟩:∃ s1,(lo+z)%18446744073709551616=s1:=⟨_,rfl⟩
    obtain ⟨c1,hc1⟩:∃ c1,(lo+z)/18446744073709551616=c1:=⟨_,rfl⟩
    obtain ⟨s2,hs2⟩:∃ s2,(s1+cy)%18446744073709551616=s2:=⟨_,rfl⟩
    obtain ⟨c2,hc2⟩:∃ c2,(s1+cy)/18446744073709551616=c2:=⟨_,rfl⟩
    obtain ⟨hm,hd1,hk1,hk2,hb1,hb2,hlo1⟩:=Td t z cy Te lo s1 c1 s2 c2 ht1 hx1 hcy hhi hlo hs1 hc1 hs2 hc2
    have hst:=HO.out.step (by omega) t s2 (Te+c1+c2) (by rw [hzz];exact hm) hb2 hd1
    rw [Nat.add_assoc (bU o),Nat.pow_add,Nat.mul_assoc,← Nat.mul_add,← ht,← Nat.mul_assoc,← Nat.add_mul,← htk] at hst
    have HST:=Lib.hid hst
    have hown2:=hown.qO (off+i) s2
    have hB2:=hB.setCell (off+i) (.int .u64 (s2:Nat))
    have hMul:Hid (∀ W,Calls Tryz.prog 191 #[.int .u64 (x:Nat),.int .u64 (yv:Nat)] W fun e w'=>e = .returned (.tuple #[.int .u64 (Te:Nat),.int .u64 (lo:Nat)])∧w'=W):=by
     intro W
     have:=sF x yv hy hyv W
     rw [ht,hhi,hlo] at this
     exact this
    have aam:∀ w,(callFunc 172 #[.int .u64 (lo:Nat),.int .u64 (z:Nat),.int .u64 0]).run Tryz.prog w = .ok (.value (.tuple #[.int .u64 (s1:Nat),.int .u64 (c1:Nat)])) w:=BH lo z 0 s1 c1 (Nat.zero_le _) hs1 hc1
    have aan:∀ w,(callFunc 172 #[.int .u64 (s1:Nat),.int .u64 (cy:Nat),.int .u64 0]).run Tryz.prog w = .ok (.value (.tuple #[.int .u64 (s2:Nat),.int .u64 (c2:Nat)])) w:=BH s1 cy 0 s2 c2 (Nat.zero_le _) hs2 hc2
    have hw1:IntKind.u64.wrap ((Te:Int)+(c1:Int))=(Te:Int)+(c1:Int):=by rw [IntKind.wrap_u64];omega
    have hw2:IntKind.u64.wrap ((Te:Int)+(c1:Int)+(c2:Int))=(Te:Int)+(c1:Int)+(c2:Int):=by rw [IntKind.wrap_u64];omega
    obtain ⟨d,hd⟩:∃ d,Te+c1+c2=d:=⟨_,rfl⟩
    have hdi:(Te:Int)+(c1:Int)+(c2:Int)=(d:Int):=by omega
    rw [hd] at HST hd1
    clear hst htk BG hzz ht hhi hlo hs1 hc1 hs2 hc2 hm hown hB HO hd ht1
    go_wp2_with (fail)
    refine (hMul.out _).mono ?_
    rintro e w' ⟨rfl,rfl⟩
    clear hMul
    go_wp2
    go_roundw
    case rel=>exact ⟨i+1,_,d,by omega,by go_num,rfl,HST,hown2,hB2⟩
    case measure=>simp [intOf];omega
  · obtain rfl:i=na:=by omega
    rw [HT2.out] at HO
    have hcz:=hown.cell (j:=off+i) (by omega)
    have hf:=hown.frozen (off+i)
    have hown2:=hown.qO (off+i) cy
    have hB2:=hB.setCell (off+i) (.int .u64 (cy:Nat))
    have hl0:lb o' (off+i)=0:=by rw [HO.out.out _ (Nat.le_refl _)];exact H0.out
    have hws:=nX o' (off+i) cy (by rw [HO.out.len];omega)
    rw [hl0,Nat.mul_zero,Nat.add_zero,HO.out.val] at hws
    have qx:(Value.int .u64 (lb o' (off+i):Nat)) = .int .u64 0:=by rw [hl0];rfl
    rw [qx] at hcz
    have HF:Hid (∃ o2,Ow (wr.setCell ⟨g,off+i,none⟩ (.int .u64 (cy:Nat))) base (.slice (some ⟨g,0,none⟩) n c) o2∧bU o2=bU o+BB^off*(bU gV*yv)∧(∀ x∈o2,x<18446744073709551616)∧∀ m,off+i<m→lb o2 m=lb o m) :=
     ⟨_,hown2,hws,iQ HO.out.lt HO.out.Bz,fun m hm=>by rw [dA _ (by omega)];exact HO.out.out m (by omega)⟩
    have hii:(i:Int)<((i+1:Nat):Int):=by omega
    have hii2:(i:Int)<(i:Int)+1:=by omega
    clear hl0 hws qx hown hown2 HO hB hr
    go_wp2
    go_end0
    exact ⟨rfl,HF.out,hB2⟩
structure RsI (gV bs:List Nat) (n:Nat) (i:Nat) (o:List Nat):Prop where
 len:o.length=n
 lt:∀ x∈o,x<18446744073709551616
 val:bU o=bU gV*bU (bs.take i)
 out:∀ m,i+gV.length≤m→lb o m=0
def Prod (w w':World) (x:Ending) (na nb:Nat) (gV bs:List Nat):Prop :=
 ∃ g c o,x = .returned (.slice (some ⟨g,0,none⟩) (na+nb) c)∧Ow w' w.heap.size (.slice (some ⟨g,0,none⟩) (na+nb) c) o∧bU o=bU gV*bU bs∧∀ x∈o,x<18446744073709551616
set_option maxRecDepth 100000 in
theorem Lc (w:World) (q1 q2:Nat) (va vb:Value) (gV bs:List Nat) (ha:V q1 w va gV) (hb:V q2 w vb bs) (na nb:Nat) (hna:gV.length=na) (hnb:bs.length=nb) (hm:na+nb≤100000) :
  Calls Tryz.prog 152 #[va,vb] w fun e w'=>Prod w w' e na nb gV bs∧Ext w w':=by
 have hxb:=hb.lim
 obtain ⟨A,ca,rfl,hca⟩:=ha.shape
 obtain ⟨A2,cb,rfl,⟨hcb,hmb⟩,hx2,hr⟩:=id hb
 have HNA:=Lib.hid hna
 have HNB:=Lib.hid hnb
 rw [hna] at ha hca ⊢
 rw [hnb] at hb hcb hr hmb ⊢
 obtain ⟨i0,hi,hz0,hz1,hz2⟩:=info_parts EX
 obtain ⟨n,hn⟩:∃ n,na+nb=n:=⟨_,rfl⟩
 have hni:(na:Int)+(nb:Int)=(n:Int):=by omega
 obtain ⟨B,hB⟩:∃ B,w.heap.size=B:=⟨_,rfl⟩
 have yM:=Lib.hid hB
 have ZU:=Lib.hid (fun k=>ji bs k)
 have HT2:Hid (bs.take nb=bs):=by rw [Hid,← hnb];exact List.take_length
 unfold Prod
 rw [hB,hn]
 clear hna hnb
 go_enter Tryz.func152,Tryz.ntmps152
 go_wp2_with (at_make;refine wpList_make_full _ rfl _ _ 145 rfl w.heap.size 111 i0 (.int .u64 0) 1 Tryz.underlying145 hi hz0 hz1 _ _ _ _ n rfl rfl (by omega) (by omega) (by rw [hz2];omega) (by unfold maxLen;omega) (Nat.le_refl _) ?_;intro w1 hown hgrow)
 have ho0:=Ow.zeros hown
 have hE0:Ext w w1:=(Ext.refl w).grown hgrow (Nat.le_refl _) (fun _ h=>by cases h)
 rw [hB] at ho0
 have ha1:=(ha.new (g:=B) (by omega)).below hE0
 have hne:∀ ad,A2=some ad→0<nb→ad.block≠B:=fun ad e h0=>by
  obtain ⟨ad',e',hb',_⟩:=hr h0
  rw [e'] at e
  injection e with e
  subst e;omega
 clear hown hgrow hi hz0 hz1 hz2 i0 ha hb
 go_wp2
 go_loopw [16] (fun t wr=>∃ (i:Nat) (o:List Nat),i≤nb∧t = .int .i64 (i:Nat)∧Hid (RsI gV bs n i o)∧Ow wr B (.slice (some ⟨B,0,none⟩) n n) o∧Ext w wr∧V B wr (.slice A na ca) gV) (fun t _=>nb-(intOf t).toNat)
 case atStart=>exact ⟨0,_,Nat.zero_le _,rfl,⟨by simp,fun x hx=>by simp at hx;omega,by simp [yT,bU],fun m _=>jq _ _⟩,ho0,hE0,ha1⟩
 case round =>
  clear ho0 hE0 ha1
  obtain ⟨i,o,hib,rfl,HO,hown,hE,hav⟩:=hrel
  by_cases hlt:i<nb
  · obtain ⟨ad,rfl,hbk,hnq,hcell⟩:=hr (by omega)
    have hc0:=(hE.cell (p:=ad.add i) (by rw [aL];exact hbk)).trans (hcell i hlt)
    have hy:lb bs i<18446744073709551616:=fQ (by decide) hx2 i
    have htk:=ZU.out i (by rw [HNB.out];exact hlt)
    obtain ⟨y,yL⟩:∃ y,lb bs i=y:=⟨_,rfl⟩
    rw [yL] at hc0 hy htk
    have acX:=Lib.hid (Pe wr B B n n i (n-i) o gV _ y hy hown HO.out.lt na HNA.out (by omega) (by omega) (by omega) hav (HO.out.out _ (by rw [HNA.out];exact Nat.le_refl _)))
    have hi1:(i:Int)+(na:Int)+1≤(n:Int):=by omega
    have hi2:(i:Int)≤(i:Int)+(na:Int)+1:=by omega
    have hi3:i≤n:=by omega
    have hi4:i+na+1-i=na+1:=by omega
    have hi5:((i:Int)+(na:Int)+1).toNat=i+na+1:=by omega
    clear yL
    go_wp2_with (fail)
    refine acX.out.mono ?_
    rintro e w' ⟨rfl,⟨o2,hown2,hv2,hl2,hout2⟩,hB2⟩
    have hE2:=hE.but hB2 (by omega)
    have afE:=hav.but hB2
    have HST:Hid (RsI gV bs n (i+1) o2):=by
     refine ⟨hown2.caps.1.symm,hl2,?_,fun m hm=>?_⟩
     · rw [htk,Nat.mul_add,← HO.out.val,hv2,Nat.mul_left_comm]
     · rw [HNA.out] at hm
       rw [hout2 m (by omega)];exact HO.out.out m (by rw [HNA.out];omega)
    clear acX hv2 hl2 hout2 hB2 hown HO hE hav htk
    go_wp2
    go_roundw
    case rel=>exact ⟨i+1,_,by omega,by go_num,HST,hown2,hE2,afE⟩
    case measure=>simp [intOf];omega
  · obtain rfl:i=nb:=by omega
    have HF:Hid (∃ g c o,Ending.returned (.slice (some ⟨B,0,none⟩) n n) = .returned (.slice (some ⟨g,0,none⟩) n c)∧Ow wr B (.slice (some ⟨g,0,none⟩) n c) o∧bU o=bU gV*bU bs∧∀ x∈o,x<18446744073709551616) :=
     ⟨B,n,o,rfl,hown,by rw [HO.out.val,HT2.out],HO.out.lt⟩
    clear hown HO hav
    go_wp2
    go_ret
    exact ⟨HF.out,hE⟩
end Go.Proofs.YtgcieamfidoaoaaGreatDoor
/- A product by three products of halves. -/
namespace Go.Proofs.YtgcieamfidoaoaaGreatDoor
open Go.RowKit
abbrev Wh:Value:=.agg #[.int .i64 40,.func (.func 170) #[] #[],.func (.func 152) #[] #[]]
def E8 (N:Nat):Prop:=∀ (w:World) (q1 q2:Nat) (va vb:Value) (gV bs:List Nat) (na nb:Nat),V q1 w va gV→V q2 w vb bs→gV.length=na→bs.length=nb→na+nb<N →
 Calls Tryz.prog 156 #[Wh,va,vb] w fun e w'=>Prod w w' e na nb gV bs∧Ext w w'
theorem Prod.open {w w':World} {e:Ending} {na nb:Nat} {gV bs:List Nat} (h:Prod w w' e na nb gV bs) (n:Nat) (hn:na+nb=n) :
 ∃ g c o,e = .returned (.slice (some ⟨g,0,none⟩) n c)∧Ow w' w.heap.size (.slice (some ⟨g,0,none⟩) n c) o∧bU o=bU gV*bU bs∧(∀ x∈o,x<18446744073709551616)∧o.length=n:=by
 obtain ⟨g,c,o,he,ho,hv,hl⟩:=h
 subst hn
 exact ⟨g,c,o,he,ho,hv,hl,ho.caps.1.symm⟩
theorem TL.done {n off A zl:Nat} {o:List Nat} {cy:Nat} (h:TL n off A zl o cy) (hn:off+zl=n) (hA:A<BB^n):bU o=A:=by
 have hv:=h.val
 rw [hn] at hv
 rcases Nat.eq_zero_or_pos cy with h0 | h0
 · rw [h0,Nat.mul_zero,Nat.add_zero] at hv;exact hv
 · have h1:cy=1:=by have:=h.Bz;omega
   rw [h1,Nat.mul_one] at hv
   omega
theorem SbI.done {n off A T zl:Nat} {o:List Nat} {cy:Nat} (h:SbI n off A T zl o cy) (hn:off+zl=n) (hT:T≤A):bU o=A-T:=by
 have hv:=h.val
 rw [hn] at hv
 have hlt:=JW o h.lt
 rw [h.len] at hlt
 rcases Nat.eq_zero_or_pos cy with h0 | h0
 · rw [h0,Nat.mul_zero,Nat.add_zero] at hv;omega
 · have h1:cy=1:=by have:=h.Bz;omega
   rw [h1,Nat.mul_one] at hv
   omega
end Go.Proofs.YtgcieamfidoaoaaGreatDoor
/- The way of halves is right, for rows of any lengths. -/
namespace Go.Proofs.YtgcieamfidoaoaaGreatDoor
open Go.RowKit
theorem Prod.turn {w w':World} {e:Ending} {na nb nx ny:Nat} {gV bs xs ys:List Nat} (h:Prod w w' e nx ny xs ys) (hn:nx+ny=na+nb) (hv:bU xs*bU ys=bU gV*bU bs):Prod w w' e na nb gV bs:=by
 obtain ⟨g,c,o,he,ho,hv',hl⟩:=h
 rw [hn] at he ho
 exact ⟨g,c,o,he,ho,by rw [hv',hv],hl⟩
theorem Prod.base {w0 w w':World} {e:Ending} {na nb:Nat} {gV bs:List Nat} (h:Prod w w' e na nb gV bs) (hB:Ext w0 w):Prod w0 w' e na nb gV bs:=by
 obtain ⟨g,c,o,he,ho,hv',hl⟩:=h
 exact ⟨g,c,o,he,ho.uG hB.size,hv',hl⟩
end Go.Proofs.YtgcieamfidoaoaaGreatDoor
