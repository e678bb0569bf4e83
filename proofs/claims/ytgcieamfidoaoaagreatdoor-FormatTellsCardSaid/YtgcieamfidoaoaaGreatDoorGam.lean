/- Base. -/
import Derived.Test.YtgcieamfidoaoaaGreatDoorGal
set_option linter.all false
set_option maxHeartbeats 8000000
namespace Go.Proofs.YtgcieamfidoaoaaGreatDoor
open Go.Proofs.Tryz
open Go.RowKit
open Go.Shelf
attribute [local go_sem] Oper.semAt_some
attribute [local go_sem ↓] pI
attribute [local go_sem] je
set_option maxRecDepth 100000 in
theorem adI (w:World) (v u:Value) (n m:Nat) (xs ys:List Nat) (hxs:limbs n=xs) (hys:limbs m=ys) (h:U w v xs) (g:U w u ys) (hl:ys.length≤xs.length) (hle:m≤n) (hm:xs.length≤1000000000) :CallsIn Fence.wide 4 prog 140 #[v,u] w fun e w'=>(∃ z,e = .returned (.tuple #[z,.bool true])∧Un w' z (n-m))∧Below w.heap.size w w':=by
 obtain ⟨A,c,rfl,⟨hc,_⟩,hx,hr⟩:=id h;obtain ⟨A2,c2,rfl,⟨hc2,_⟩,hx2,hr2⟩:=id g;clear hr hr2
 have hcm:decide (dA n m<0)=false:=by
  rw [decide_eq_false_iff_not];unfold dA;split
  · omega
  · split<;>omega
 have hvx:val xs=n:=by rw [← hxs,aM]
 have hvy:val ys=m:=by rw [← hys,aM]
 have Px:=C9 w _ _ n m (by rw [Un,hxs];exact h) (by rw [Un,hys];exact g);have HXS:=Lib.hid hvx;have HYS:=Lib.hid hvy;have HLE:=Lib.hid hle;have HL:=Lib.hid hl;clear hl hle hvx hvy hxs hys;obtain ⟨i0,hi,hz0,hz1,hz2⟩:=info_parts info57;refine callsIn_of_wp_marks func140 rfl trivial ?_ rfl;simp only [ntmps140,List.size_toArray,List.length_cons,List.length_nil,Nat.reduceAdd,Nat.reduceSub,Array.replicate_succ,Array.replicate_zero,List.push_toArray,List.append_toArray,List.nil_append,List.cons_append];gi_wp2_with (fail);refine ⟨trivial,?_⟩;refine (callsIn_wide.2 Px).mono ?_;rintro e wc ⟨rfl,hBc⟩;have h':=h.below hBc;have g':=g.below hBc;gi_wp2_with (first | (gi_at_make;refine wpListIn_make_own _ rfl _ _ 24 rfl wc.heap.size 57 i0 (.int .u32 0) 1 underlying24 hi hz0 hz1 _ _ _ xs.length rfl rfl (by omega) (by rw [hz2];omega) (by unfold maxLen;omega) (Nat.le_refl _) ?_;intro w1 hown hgrow) | (refine ⟨trivial,?_⟩;gi_at_call 166;refine (callsIn_wide.2 (NH _)).mono ?_;rintro e w' ⟨rfl,rfl⟩) | (refine ⟨trivial,?_⟩;gi_at_call 125;refine (callsIn_wide.2 (yc _ _ _ _ _ _ _)).mono ?_;rintro e w' ⟨rfl,rfl⟩));obtain ⟨B,hB⟩:∃ B,w1.heap.size=B:=⟨_,rfl⟩;obtain ⟨W0,hW0⟩:∃ W0,(((((w1.alloc (.cells #[.slice (some ⟨wc.heap.size,0,none⟩) 0 xs.length] 24)).alloc (.cells #[.int .u32 0] 57)).alloc (.cells #[.func (.func 183) #[] #[.pointer (some ⟨w1.heap.size+1,0,none⟩)]] 127)).alloc (.cells #[.slice A xs.length c] 24)).alloc (.cells #[.slice A2 ys.length c2] 24))=W0:=⟨_,rfl⟩;have hB1:Below wc.heap.size wc w1:=(Below.refl _ _).grown hgrow (Nat.le_refl _) (fun _ h=>by cases h);have XR:=hB1.size;have hB0:Below wc.heap.size wc W0:=by rw [← hW0];exact ((((hB1.alloc (by omega) _).alloc (by simp;omega) _).alloc (by simp;omega) _).alloc (by simp;omega) _).alloc (by simp;omega) _
 have hsz:W0.heap.size=B+5:=by rw [← hW0,← hB];simp
 have b0:Boxed W0 B 24 (.slice (some ⟨wc.heap.size,0,none⟩) 0 xs.length):=by rw [← hW0,← hB];exact ((((Boxed.new w1 24 _).alloc _).alloc _).alloc _).alloc _
 have b1:Boxed W0 (B+1) 57 (.int .u32 0):=by rw [← hW0,← hB];have:=((((Boxed.new (w1.alloc (.cells #[.slice (some ⟨wc.heap.size,0,none⟩) 0 xs.length] 24)) 57 (.int .u32 0)).alloc (.cells #[.func (.func 183) #[] #[.pointer (some ⟨w1.heap.size+1,0,none⟩)]] 127)).alloc (.cells #[.slice A xs.length c] 24)).alloc (.cells #[.slice A2 ys.length c2] 24));simpa using this
 have b2:Boxed W0 (B+2) 127 (.func (.func 183) #[] #[.pointer (some ⟨B+1,0,none⟩)]):=by rw [← hW0,← hB];have:=(((Boxed.new ((w1.alloc (.cells #[.slice (some ⟨wc.heap.size,0,none⟩) 0 xs.length] 24)).alloc (.cells #[.int .u32 0] 57)) 127 (.func (.func 183) #[] #[.pointer (some ⟨w1.heap.size+1,0,none⟩)])).alloc (.cells #[.slice A xs.length c] 24)).alloc (.cells #[.slice A2 ys.length c2] 24));simpa using this
 have b3:Boxed W0 (B+3) 24 (.slice A xs.length c):=by rw [← hW0,← hB];have:=((Boxed.new (((w1.alloc (.cells #[.slice (some ⟨wc.heap.size,0,none⟩) 0 xs.length] 24)).alloc (.cells #[.int .u32 0] 57)).alloc (.cells #[.func (.func 183) #[] #[.pointer (some ⟨w1.heap.size+1,0,none⟩)]] 127)) 24 (.slice A xs.length c)).alloc (.cells #[.slice A2 ys.length c2] 24));simpa using this
 have b4:Boxed W0 (B+4) 24 (.slice A2 ys.length c2):=by rw [← hW0,← hB];have:=(Boxed.new ((((w1.alloc (.cells #[.slice (some ⟨wc.heap.size,0,none⟩) 0 xs.length] 24)).alloc (.cells #[.int .u32 0] 57)).alloc (.cells #[.func (.func 183) #[] #[.pointer (some ⟨w1.heap.size+1,0,none⟩)]] 127)).alloc (.cells #[.slice A xs.length c] 24)) 24 (.slice A2 ys.length c2));simpa using this
 have hown0:Own W0 wc.heap.size (.slice (some ⟨wc.heap.size,0,none⟩) ([]:List Nat).length xs.length) []:=by rw [← hW0];exact ((((World.ownsRow.alloc hown _).alloc _).alloc _).alloc _).alloc _
 have hS0:BR wc B wc.heap.size xs.length 183 [] 0 W0:=⟨b0,hown0,b1,b2,hB0,by omega⟩;have hBw:wc.heap.size<B:=by have:=(World.ownsRow.lt hown wc.heap.size rfl).2;omega
 have hWr:Boxed W0 B 24 (.slice (some ⟨wc.heap.size,0,none⟩) 0 xs.length):=b0;rw [hW0];rw [hB];clear hW0 b0 b1 b2 hown0 hown hgrow hB1 XR hWr hB
 refine wpIn_rangeFunc_ownG rfl (by omega) (gf := 149) (lb:=#[.pointer (some ⟨B+4,0,none⟩),.pointer (some ⟨B+3,0,none⟩)]) rfl trivial (enters_of func149 (by kernel_rfl) rfl)
  (yf (B+3) (B+4) _ _ xs ys wc W0 hB0 HL.out (by omega) (by omega) b3 b4 h' g') Pt.trans (XQ (by omega) (by omega) (by omega)) (Below.refl _ _) (fun _=>rfl)
  (fun pre W=>∃ o cy,Hid (vO pre o cy)∧BR wc B wc.heap.size xs.length 183 o cy W)
  (fun c pre W=>False)
  (fun s X Y row hs hg hr=>by obtain ⟨o,cy,ha,hs⟩:=hs;exact ⟨o,cy,ha,hs.grown hg (by omega) hr⟩)
  (fun c s X Y row hs hg hr=>hs)
  ⟨[],0,vO.start,hS0⟩
  (fun x=>{ tmps:=#[.slice A xs.length c,.slice A2 ys.length c2,undef,undef,.slice none 0 0,.bool false,A0a B,.pointer (some ⟨B+1+1,0,none⟩),.int .u32 (x.1.1:Int),.int .u32 (x.1.2:Int),.slice A xs.length c,.slice A2 ys.length c2,.int .i64 (dA n m),.bool false,.slice A xs.length c,.int .i64 (xs.length:Int),.slice (some ⟨wc.heap.size,0,none⟩) 0 xs.length,.func (.func 183) #[] #[.pointer (some ⟨B+1,0,none⟩)],.slice A xs.length c,.slice A2 ys.length c2,.func (.func 149) #[] #[.pointer (some ⟨B+1+1+1+1,0,none⟩),.pointer (some ⟨B+1+1+1,0,none⟩)],.int .u32 (x.1.1:Int),.int .u32 (x.1.2:Int),undef,undef,undef,undef,undef,undef,undef,undef,undef],defers:=[] }) ?assign ?body ?done ?stop
 case assign =>intro l x W K hK;gi_wp2;exact hK
 case body =>
  rintro l pre x W ⟨o,cy,HA,hS⟩ hpl;have hb0:=hS.box.cell;have hf0:=hS.box.frozen;have hb1:=hS.Pv.cell;have hf1:=hS.Pv.frozen;have hb2:=hS.Yg.cell;have hmx:prog.follows .mixedOrders=true:=by kernel_rfl
  have hcy:=HA.out.carry;have hlen:=HA.out.len;have hol:o.length+1≤xs.length:=by omega
  have HA2:=Lib.hid (HA.out.step x);have ajB:=vK x.1.1 x.1.2 cy;obtain ⟨d,hd⟩:∃ d,qJ x.1.1 x.1.2 cy=d:=⟨_,rfl⟩;obtain ⟨cz,hcz⟩:∃ d,vJ x.1.1 x.1.2 cy=d:=⟨_,rfl⟩;have hcall:=KT W.drew x.1.1 x.1.2 cy (B+1) x.2.1 x.2.2 hcy hb1 hf1;rw [hd,hcz] at hcall HA2;obtain ⟨W1,hW1⟩:∃ W1,W.drew.setCell ⟨B+1,0,none⟩ (.int .u32 (cz:Nat))=W1:=⟨_,rfl⟩;rw [hW1] at hcall;have hsz1:W1.heap.size=W.heap.size:=by rw [← hW1];simp [World.setCell]
  have hg1:W.grownBy W1 (some (B+1)):=by rw [← hW1];have hq:=grownBy_setCell' W.drew (B+1) (.int .u32 (cz:Nat));exact ⟨hq.os,hq.tape,hq.output,hq.size,hq.block⟩
  have hown1:(W1.alloc (.cells #[.int .u32 (d:Nat)] 57)).ownsRow wc.heap.size 57 1 (.slice (some ⟨wc.heap.size,0,none⟩) o.length xs.length) o.length (tL o) :=
   World.ownsRow.alloc (World.ownsRow.kept hS.own hg1 (.inr (by simp [Value.ownBlock];omega))) _
  have hx0:=hS.box.kept hg1 (by intro e;injection e with e;omega);have hx2:=hS.Yg.kept hg1 (by intro e;injection e with e;omega);have hx1:Boxed W1 (B+1) 57 (.int .u32 (cz:Nat)):=by rw [← hW1];exact Boxed.set (W:=W.drew) _ hS.Pv
  have hxb:Below wc.heap.size wc W1:=hS.Hz.grown hg1 hS.Hz.size (fun k e=>by injection e with e;omega);have hxW:Below wc.heap.size W W1:=(Below.refl _ W).grown hg1 hS.Hz.size (fun k e=>by injection e with e;omega);have hko:KeepsOthers W W1:=by rw [← hW1];exact (KeepsOthers.drew W).trans (KeepsOthers.setCell _ _ _)
  obtain ⟨W2,hrun,hown2,hgrow2⟩:=run_append_fits (P:=prog) (W1.alloc (.cells #[.int .u32 (d:Nat)] 57)) wc.heap.size 24 24 57 i0 1 underlying24 hi hz1 wc.heap.size o.length xs.length (tL o) hown1
   ⟨W1.heap.size,0,none⟩ 1 1 [.int .u32 (d:Nat)] rfl (by intro j u hj;cases j with | zero=>simp at hj;subst hj;simp [Addr.add] | succ j=>simp at hj) (by simp [Value.oneCell']) hol
  have hy0:=(hx0.alloc (.cells #[.int .u32 (d:Nat)] 57)).kept hgrow2 (by intro e;injection e with e;omega);have hy1:=(hx1.alloc (.cells #[.int .u32 (d:Nat)] 57)).kept hgrow2 (by intro e;injection e with e;omega);have hy2:=(hx2.alloc (.cells #[.int .u32 (d:Nat)] 57)).kept hgrow2 (by intro e;injection e with e;omega);have hyb:Below wc.heap.size wc W2:=(hxb.alloc hxb.size _).grown hgrow2 (by have:=hxb.size;rw [World.size_alloc];omega) (fun k e=>by injection e with e;omega);have hyW:Below wc.heap.size W W2:=(hxW.alloc hxb.size _).grown hgrow2 (by have:=hxb.size;rw [World.size_alloc];omega) (fun k e=>by injection e with e;omega)
  have hkeep:∀ k,k<W.heap.size→k≠B+1→k≠wc.heap.size→W2.heap[k]?=W.heap[k]?:=fun k h1 h2 h3 =>
   ((hgrow2.block k (by rw [World.size_alloc];omega) (fun e=>h3 (by injection e))).trans (Below.heap_alloc _ _ k (by omega))).trans (hg1.block k h1 (fun e=>h2 (by injection e)))
  have Eb:KeepsOthers W W2:=(hko.trans (KeepsOthers.alloc _ _)).trans (KeepsOthers.of_grownBy hgrow2 fun j ob ej hj=>by
   cases ej;rcases hown1.2 with ⟨h',_⟩ | ⟨g',cap',cur,h',_,hg,_⟩
   · cases h'
   · cases h';rw [hg] at hj;cases hj;rfl)
  have agS:=hy0.cell;have aaF:=hx0.cell;have aaG:=(hx0.alloc (.cells #[.int .u32 (d:Nat)] 57)).cell;have agT:=hy0.frozen;have HW1:=Lib.hid hsz1;obtain ⟨ht1,ht2,ht3⟩:=jW hrun;clear hrun hW1 hsz1 hd hcz hg1 hlen ajB;gi_wp2;gi_region_with_o ((refine ⟨trivial,?_⟩;gi_at_call 183;refine (CallsIn.inRound l (callsIn_wide.2 hcall)).mono ?_;rintro e w' ⟨rfl,rfl⟩));all_goals gi_wp2
  all_goals
   have aaH:=hS.siz;have agU:=Eb.size;have hset:=grownBy_setCell' W2 B (.slice (some ⟨wc.heap.size,0,none⟩) (o.length+1) xs.length)
   have hrow:(W2.setCell ⟨B,0,none⟩ (.slice (some ⟨wc.heap.size,0,none⟩) (o.length+1) xs.length)).ownsRow wc.heap.size 57 1 (.slice (some ⟨wc.heap.size,0,none⟩) (o.length+1) xs.length) (o.length+1) (tL o++[.int .u32 (d:Nat)]) :=
    World.ownsRow.kept hown2 hset (.inr (by simp only [Value.ownBlock];intro e;injection e with e;omega))
   refine ⟨(Eb.trans (KeepsOthers.setCell _ _ _)).from _,⟨hyW.setCell (p:=⟨B,0,none⟩) (Nat.le_of_lt hBw) _,?_,?_⟩,o++[d],cz,HA2.out,?_,?_,hy1.other (by omega) _,hy2.other (by omega) _,hyb.setCell (p:=⟨B,0,none⟩) (Nat.le_of_lt hBw) _,?_⟩
   · exact (hset.block (B+3) (by omega) (fun e=>by injection e with e;omega)).trans (hkeep (B+3) (by omega) (by omega) (by omega))
   · exact (hset.block (B+4) (by omega) (fun e=>by injection e with e;omega)).trans (hkeep (B+4) (by omega) (by omega) (by omega))
   · rw [List.length_append];exact hy0.set _
   · unfold Own;rw [oM,List.length_append];exact hrow
   · have:=hset.size;omega
 case done =>
  rintro D l W hD hl ⟨o,cy,HA,hS⟩ hK;have hb0:=hS.box.cell;have hdone:=HA.out.done hl HL.out (by rw [HXS.out,HYS.out];exact HLE.out);rw [HXS.out,HYS.out] at hdone;have hlen:=HA.out.len;have hol:o.length=xs.length:=by rw [hlen];have:=congrArg List.length hl;simpa [kN] using this
  have hu:U W (.slice (some ⟨wc.heap.size,0,none⟩) o.length xs.length) o:=Own.Ht hS.own HA.out.lt (by omega);have HD:=Lib.hid hdone;have HB:=Lib.hid (hBc.trans (hS.Hz.mono hBc.size));clear hdone hol hl hlen;gi_wp2_with (refine ⟨trivial,?_⟩;gi_at_call 92;refine (callsIn_wide.2 (mY _ _ _ hu)).mono ?_;rintro e w' ⟨⟨z,rfl,hz⟩,rfl⟩);rw [HD.out] at hz;refine ⟨by simp,.inl ⟨_,_,rfl,run_takeDeferred hK,?_⟩⟩;refine ⟨.tuple #[z,.bool true],by simp [results,Tryz.f140,go_sem],⟨_,rfl,hz.put hK rfl _⟩,HB.out.trans (belowK_b (w:=w) (Nat.le_refl _) _ D _ _ (by have:=hBc.size;omega) hK rfl rfl)⟩
 case stop =>rintro D cc pre W hD _ h _;exact h.elim
theorem Py (w:World) (v u:Value) (n m:Nat) (h:Un w v n) (g:Un w u m) (hm:(limbs n).length≤1000000000) :Calls prog 140 #[v,u] w fun e w'=>(∃ z,e = .returned (.tuple #[z,.bool (decide (m≤n))])∧Un w' z (n-m))∧Below w.heap.size w w':=by
 by_cases hle:m≤n
 · rw [decide_eq_true hle];exact callsIn_wide.1 (adI w v u n m _ _ rfl rfl h g (iK hle) hle hm)
 · rw [decide_eq_false hle];have hcm:decide (dA n m<0)=true:=(by rw [lU (by omega)];rfl);have hz:Hid (n-m=0):=(by rw [Hid];omega);have Px:=C9 w _ _ n m h g;go_enter func140,ntmps140;go_wp2_with (go_at_call 44;refine Px.mono ?_;rintro e wc ⟨rfl,hBc⟩);go_ret2;exact ⟨⟨_,rfl,by rw [hz.out,Un,bF];exact U.zZ _ _ _⟩,by assumption⟩
