/- Base. -/
import Derived.Test.YtgcieamfidoaoaaGreatDoorGak
set_option linter.all false
set_option maxHeartbeats 8000000
namespace Go.Proofs.YtgcieamfidoaoaaGreatDoor
open Go.Proofs.Tryz
open Go.RowKit
section
open Go.Shelf
attribute [local go_sem] Oper.semAt_some
attribute [local go_sem ↓] pI
attribute [local go_sem] je
structure BR (w:World) (B g cap fn:Nat) (o:List Nat) (cy:Nat) (W:World):Prop where
 box:Boxed W B 24 (.slice (some ⟨g,0,none⟩) o.length cap)
 own:Own W g (.slice (some ⟨g,0,none⟩) o.length cap) o
 Pv:Boxed W (B+1) 57 (.int .u32 (cy:Nat))
 Yg:Boxed W (B+2) 127 (.func (.func fn) #[] #[.pointer (some ⟨B+1,0,none⟩)])
 Hz:Below w.heap.size w W
 siz:B+5≤W.heap.size
theorem C8 {X:World} {B:Nat} {t:TypeId} {v:Value} {row:Option Nat} (h:Boxed X B t v) (hr:∀ r,row=some r→∃ o:Obj,X.heap[r]?=some o∧o.isCells=false):some B≠row:=fun e=>by obtain ⟨o,ho,hc⟩:=hr B e.symm;rw [show X.heap[B]?=_ from h] at ho;cases ho;cases hc
theorem aaE {X:World} {base g c n:Nat} {e:TypeId} {xs:List Value} {row:Option Nat} (h:X.ownsRow base e 1 (.slice (some ⟨g,0,none⟩) n c) n xs) (hr:∀ r,row=some r→∃ o:Obj,X.heap[r]?=some o∧o.isCells=false):some g≠row:=fun e'=>by
 obtain ⟨o,ho,hc⟩:=hr g e'.symm;rcases h.2 with ⟨h',_⟩ | ⟨g',cap',cur,h',_,hg,_⟩
 · cases h'
 · cases h';rw [hg] at ho;cases ho;cases hc
theorem BR.grown {w X Y:World} {B g cap fn:Nat} {o:List Nat} {cy:Nat} {row:Option Nat} {B0:Nat} (h:BR w B g cap fn o cy X) (hg:X.grownBy Y row) (hB0:w.heap.size≤B0) (hr:∀ r,row=some r→B0≤r∧∃ o:Obj,X.heap[r]?=some o∧o.isCells=false):BR w B g cap fn o cy Y :=
 ⟨h.box.kept hg (C8 h.box fun r e=>(hr r e).2),World.ownsRow.kept h.own hg (.inr (aaE h.own fun r e=>(hr r e).2)),
  h.Pv.kept hg (C8 h.Pv fun r e=>(hr r e).2),h.Yg.kept hg (C8 h.Yg fun r e=>(hr r e).2),
  h.Hz.grown hg h.Hz.size (fun k e=>Nat.le_trans hB0 (hr k e).1),Nat.le_trans h.siz hg.size⟩
def zH (K:Act→World→Prop):Exit→Act→World→Prop
 | .normal,a,w=>K a w
 | _,_,_=>False
theorem DV {F:Fence} {n:Nat} {P:Program} {c:Code} {K:Act→World→Prop} {Q:Exit→Act→World→Prop} {a:Act} {w:World} (h:c.wpIn F n P (zH K) a w):c.wpIn F n P (Exit.then K Q) a w :=
 wpIn_mono h fun e a w hq=>by
  cases e with
  | normal=>exact hq
  | _=>exact hq.elim
theorem U.put {W:World} {v:Value} {xs:List Nat} {l:Nat} {o:Obj} (h:U W v xs) (hl:W.heap[l]?=some o) (ho:o.isCells=false) (o':Obj):U (W.putObj l o') v xs:=by have hg:=grownBy_putObj' W l o';obtain ⟨A,c,rfl,hc,hx,hr⟩:=h;refine ⟨A,c,rfl,hc,hx,fun h0=>?_⟩;obtain ⟨ad,hA,hb,hcell⟩:=hr h0;exact ⟨ad,hA,Nat.lt_of_lt_of_le hb hg.size,fun j hj=>cell_kept (hcell j hj) hg (fun r e=>by cases e;exact ⟨_,hl,ho⟩)⟩
set_option maxRecDepth 100000 in
theorem adG (w:World) (v u:Value) (xs ys:List Nat) (h:U w v xs) (g:U w u ys) (hl:ys.length≤xs.length) (hm:xs.length≤1000000000) :CallsIn Fence.wide 4 prog 73 #[v,u] w fun e w'=>(∃ z,e = .returned z∧Un w' z (val xs+val ys))∧Below w.heap.size w w':=by
 obtain ⟨A,c,rfl,⟨hc,_⟩,hx,hr⟩:=id h;obtain ⟨A2,c2,rfl,⟨hc2,_⟩,hx2,hr2⟩:=id g;clear hr hr2;have hl1:decide (xs.length<ys.length)=false:=by rw [decide_eq_false_iff_not];omega
 have HL:=Lib.hid hl;clear hl;obtain ⟨i0,hi,hz0,hz1,hz2⟩:=info_parts info57;refine callsIn_of_wp_marks func73 rfl trivial ?_ rfl;simp only [ntmps73,List.size_toArray,List.length_cons,List.length_nil,Nat.reduceAdd,Nat.reduceSub,Array.replicate_succ,Array.replicate_zero,List.push_toArray,List.append_toArray,List.nil_append,List.cons_append];gi_wp2_with (first | (gi_at_make;refine wpListIn_make_own _ rfl _ _ 24 rfl w.heap.size 57 i0 (.int .u32 0) 1 underlying24 hi hz0 hz1 _ _ _ (xs.length+1) rfl rfl (by omega) (by rw [hz2];omega) (by unfold maxLen;omega) (Nat.le_refl _) ?_;intro w1 hown hgrow) | (refine ⟨trivial,?_⟩;gi_at_call 124;refine (callsIn_wide.2 (DU _)).mono ?_;rintro e w' ⟨rfl,rfl⟩) | (refine ⟨trivial,?_⟩;gi_at_call 125;refine (callsIn_wide.2 (yc _ _ _ _ _ _ _)).mono ?_;rintro e w' ⟨rfl,rfl⟩));obtain ⟨B,hB⟩:∃ B,w1.heap.size=B:=⟨_,rfl⟩;obtain ⟨W0,hW0⟩:∃ W0,(((((w1.alloc (.cells #[.slice (some ⟨w.heap.size,0,none⟩) 0 (xs.length+1)] 24)).alloc (.cells #[.int .u32 0] 57)).alloc (.cells #[.func (.func 147) #[] #[.pointer (some ⟨w1.heap.size+1,0,none⟩)]] 127)).alloc (.cells #[.slice A xs.length c] 24)).alloc (.cells #[.slice A2 ys.length c2] 24))=W0:=⟨_,rfl⟩;have hB1:Below w.heap.size w w1:=(Below.refl _ _).grown hgrow (Nat.le_refl _) (fun _ h=>by cases h);have XR:=hB1.size;have hB0:Below w.heap.size w W0:=by rw [← hW0];exact ((((hB1.alloc (by omega) _).alloc (by simp;omega) _).alloc (by simp;omega) _).alloc (by simp;omega) _).alloc (by simp;omega) _
 have hsz:W0.heap.size=B+5:=by rw [← hW0,← hB];simp
 have b0:Boxed W0 B 24 (.slice (some ⟨w.heap.size,0,none⟩) 0 (xs.length+1)):=by rw [← hW0,← hB];exact ((((Boxed.new w1 24 _).alloc _).alloc _).alloc _).alloc _
 have b1:Boxed W0 (B+1) 57 (.int .u32 0):=by rw [← hW0,← hB];have:=((((Boxed.new (w1.alloc (.cells #[.slice (some ⟨w.heap.size,0,none⟩) 0 (xs.length+1)] 24)) 57 (.int .u32 0)).alloc (.cells #[.func (.func 147) #[] #[.pointer (some ⟨w1.heap.size+1,0,none⟩)]] 127)).alloc (.cells #[.slice A xs.length c] 24)).alloc (.cells #[.slice A2 ys.length c2] 24));simpa using this
 have b2:Boxed W0 (B+2) 127 (.func (.func 147) #[] #[.pointer (some ⟨B+1,0,none⟩)]):=by rw [← hW0,← hB];have:=(((Boxed.new ((w1.alloc (.cells #[.slice (some ⟨w.heap.size,0,none⟩) 0 (xs.length+1)] 24)).alloc (.cells #[.int .u32 0] 57)) 127 (.func (.func 147) #[] #[.pointer (some ⟨w1.heap.size+1,0,none⟩)])).alloc (.cells #[.slice A xs.length c] 24)).alloc (.cells #[.slice A2 ys.length c2] 24));simpa using this
 have b3:Boxed W0 (B+3) 24 (.slice A xs.length c):=by rw [← hW0,← hB];have:=((Boxed.new (((w1.alloc (.cells #[.slice (some ⟨w.heap.size,0,none⟩) 0 (xs.length+1)] 24)).alloc (.cells #[.int .u32 0] 57)).alloc (.cells #[.func (.func 147) #[] #[.pointer (some ⟨w1.heap.size+1,0,none⟩)]] 127)) 24 (.slice A xs.length c)).alloc (.cells #[.slice A2 ys.length c2] 24));simpa using this
 have b4:Boxed W0 (B+4) 24 (.slice A2 ys.length c2):=by rw [← hW0,← hB];have:=(Boxed.new ((((w1.alloc (.cells #[.slice (some ⟨w.heap.size,0,none⟩) 0 (xs.length+1)] 24)).alloc (.cells #[.int .u32 0] 57)).alloc (.cells #[.func (.func 147) #[] #[.pointer (some ⟨w1.heap.size+1,0,none⟩)]] 127)).alloc (.cells #[.slice A xs.length c] 24)) 24 (.slice A2 ys.length c2));simpa using this
 have hown0:Own W0 w.heap.size (.slice (some ⟨w.heap.size,0,none⟩) ([]:List Nat).length (xs.length+1)) []:=by rw [← hW0];exact ((((World.ownsRow.alloc hown _).alloc _).alloc _).alloc _).alloc _
 have hS0:BR w B w.heap.size (xs.length+1) 147 [] 0 W0:=⟨b0,hown0,b1,b2,hB0,by omega⟩;have hBw:w.heap.size<B:=by have:=(World.ownsRow.lt hown w.heap.size rfl).2;omega
 have hWr:Boxed W0 B 24 (.slice (some ⟨w.heap.size,0,none⟩) 0 (xs.length+1)):=b0;rw [hW0];rw [hB];clear hW0 b0 b1 b2 hown0 hown hgrow hB1 XR hWr hB
 refine wpIn_rangeFunc_ownG rfl (by omega) (gf := 149) (lb:=#[.pointer (some ⟨B+4,0,none⟩),.pointer (some ⟨B+3,0,none⟩)]) rfl trivial (enters_of func149 (by kernel_rfl) rfl)
  (yf (B+3) (B+4) _ _ xs ys w W0 hB0 HL.out (by omega) (by omega) b3 b4 h g) Pt.trans (XQ (by omega) (by omega) (by omega)) (Below.refl _ _) (fun _=>rfl)
  (fun pre W=>∃ o cy,Hid (rW pre o cy)∧BR w B w.heap.size (xs.length+1) 147 o cy W)
  (fun c pre W=>False)
  (fun s X Y row hs hg hr=>by obtain ⟨o,cy,ha,hs⟩:=hs;exact ⟨o,cy,ha,hs.grown hg (by omega) hr⟩)
  (fun c s X Y row hs hg hr=>hs)
  ⟨[],0,rW.start,hS0⟩
  (fun x=>{ tmps:=#[.slice A xs.length c,.slice A2 ys.length c2,undef,undef,.slice none 0 0,A0a B,.pointer (some ⟨B+1+1,0,none⟩),.int .u32 (x.1.1:Int),.int .u32 (x.1.2:Int),.slice A xs.length c,.int .i64 (xs.length:Int),.slice A2 ys.length c2,.int .i64 (ys.length:Int),.bool false,undef,undef,.slice A xs.length c,.int .i64 (xs.length:Int),.int .i64 ((xs.length:Int)+1),.slice (some ⟨w.heap.size,0,none⟩) 0 (xs.length+1),.func (.func 147) #[] #[.pointer (some ⟨B+1,0,none⟩)],.slice A xs.length c,.slice A2 ys.length c2,.func (.func 149) #[] #[.pointer (some ⟨B+1+1+1+1,0,none⟩),.pointer (some ⟨B+1+1+1,0,none⟩)],.int .u32 (x.1.1:Int),.int .u32 (x.1.2:Int),undef,undef,undef,undef,undef,undef,undef,undef,undef,undef,undef,undef,undef],defers:=[] }) ?assign ?body ?done ?stop
 case assign =>intro l x W K hK;gi_wp2;exact hK
 case body =>
  rintro l pre x W ⟨o,cy,HA,hS⟩ hpl;have hb0:=hS.box.cell;have hf0:=hS.box.frozen;have hb1:=hS.Pv.cell;have hf1:=hS.Pv.frozen;have hb2:=hS.Yg.cell;have hmx:prog.follows .mixedOrders=true:=by kernel_rfl
  have hcy:=HA.out.carry;have hlen:=HA.out.len;have hol:o.length+1≤xs.length+1:=by omega
  have HA2:=Lib.hid (HA.out.step x);obtain ⟨d,hd⟩:∃ d,(x.1.1+x.1.2+cy)%4294967296=d:=⟨_,rfl⟩;obtain ⟨cz,hcz⟩:∃ d,(x.1.1+x.1.2+cy)/4294967296=d:=⟨_,rfl⟩;have hcall:=qK W.drew x.1.1 x.1.2 cy (B+1) x.2.1 x.2.2 hcy hb1 hf1;rw [hd,hcz] at hcall HA2;obtain ⟨W1,hW1⟩:∃ W1,W.drew.setCell ⟨B+1,0,none⟩ (.int .u32 (cz:Nat))=W1:=⟨_,rfl⟩;rw [hW1] at hcall;have hsz1:W1.heap.size=W.heap.size:=by rw [← hW1];simp [World.setCell]
  have hg1:W.grownBy W1 (some (B+1)):=by rw [← hW1];have hq:=grownBy_setCell' W.drew (B+1) (.int .u32 (cz:Nat));exact ⟨hq.os,hq.tape,hq.output,hq.size,hq.block⟩
  have hown1:(W1.alloc (.cells #[.int .u32 (d:Nat)] 57)).ownsRow w.heap.size 57 1 (.slice (some ⟨w.heap.size,0,none⟩) o.length (xs.length+1)) o.length (tL o) :=
   World.ownsRow.alloc (World.ownsRow.kept hS.own hg1 (.inr (by simp [Value.ownBlock];omega))) _
  have hx0:=hS.box.kept hg1 (by intro e;injection e with e;omega);have hx2:=hS.Yg.kept hg1 (by intro e;injection e with e;omega);have hx1:Boxed W1 (B+1) 57 (.int .u32 (cz:Nat)):=by rw [← hW1];exact Boxed.set (W:=W.drew) _ hS.Pv
  have hxb:Below w.heap.size w W1:=hS.Hz.grown hg1 hS.Hz.size (fun k e=>by injection e with e;omega);have hxW:Below w.heap.size W W1:=(Below.refl _ W).grown hg1 hS.Hz.size (fun k e=>by injection e with e;omega);have hko:KeepsOthers W W1:=by rw [← hW1];exact (KeepsOthers.drew W).trans (KeepsOthers.setCell _ _ _)
  obtain ⟨W2,hrun,hown2,hgrow2⟩:=run_append_fits (P:=prog) (W1.alloc (.cells #[.int .u32 (d:Nat)] 57)) w.heap.size 24 24 57 i0 1 underlying24 hi hz1 w.heap.size o.length (xs.length+1) (tL o) hown1
   ⟨W1.heap.size,0,none⟩ 1 1 [.int .u32 (d:Nat)] rfl (by intro j u hj;cases j with | zero=>simp at hj;subst hj;simp [Addr.add] | succ j=>simp at hj) (by simp [Value.oneCell']) hol
  have hy0:=(hx0.alloc (.cells #[.int .u32 (d:Nat)] 57)).kept hgrow2 (by intro e;injection e with e;omega);have hy1:=(hx1.alloc (.cells #[.int .u32 (d:Nat)] 57)).kept hgrow2 (by intro e;injection e with e;omega);have hy2:=(hx2.alloc (.cells #[.int .u32 (d:Nat)] 57)).kept hgrow2 (by intro e;injection e with e;omega);have hyb:Below w.heap.size w W2:=(hxb.alloc hxb.size _).grown hgrow2 (by have:=hxb.size;rw [World.size_alloc];omega) (fun k e=>by injection e with e;omega);have hyW:Below w.heap.size W W2:=(hxW.alloc hxb.size _).grown hgrow2 (by have:=hxb.size;rw [World.size_alloc];omega) (fun k e=>by injection e with e;omega)
  have hkeep:∀ k,k<W.heap.size→k≠B+1→k≠w.heap.size→W2.heap[k]?=W.heap[k]?:=fun k h1 h2 h3 =>
   ((hgrow2.block k (by rw [World.size_alloc];omega) (fun e=>h3 (by injection e))).trans (Below.heap_alloc _ _ k (by omega))).trans (hg1.block k h1 (fun e=>h2 (by injection e)))
  have Eb:KeepsOthers W W2:=(hko.trans (KeepsOthers.alloc _ _)).trans (KeepsOthers.of_grownBy hgrow2 fun j ob ej hj=>by
   cases ej;rcases hown1.2 with ⟨h',_⟩ | ⟨g',cap',cur,h',_,hg,_⟩
   · cases h'
   · cases h';rw [hg] at hj;cases hj;rfl)
  have agS:=hy0.cell;have aaF:=hx0.cell;have aaG:=(hx0.alloc (.cells #[.int .u32 (d:Nat)] 57)).cell;have agT:=hy0.frozen;have HW1:=Lib.hid hsz1;obtain ⟨ht1,ht2,ht3⟩:=jW hrun;clear hrun hW1 hsz1 hd hcz hg1 hlen;gi_wp2;gi_region_with_o ((refine ⟨trivial,?_⟩;gi_at_call 147;refine (CallsIn.inRound l (callsIn_wide.2 hcall)).mono ?_;rintro e w' ⟨rfl,rfl⟩));all_goals gi_wp2
  all_goals
   have aaH:=hS.siz;have agU:=Eb.size;have hset:=grownBy_setCell' W2 B (.slice (some ⟨w.heap.size,0,none⟩) (o.length+1) (xs.length+1))
   have hrow:(W2.setCell ⟨B,0,none⟩ (.slice (some ⟨w.heap.size,0,none⟩) (o.length+1) (xs.length+1))).ownsRow w.heap.size 57 1 (.slice (some ⟨w.heap.size,0,none⟩) (o.length+1) (xs.length+1)) (o.length+1) (tL o++[.int .u32 (d:Nat)]) :=
    World.ownsRow.kept hown2 hset (.inr (by simp only [Value.ownBlock];intro e;injection e with e;omega))
   refine ⟨(Eb.trans (KeepsOthers.setCell _ _ _)).from _,⟨hyW.setCell (p:=⟨B,0,none⟩) (Nat.le_of_lt hBw) _,?_,?_⟩,o++[d],cz,HA2.out,?_,?_,hy1.other (by omega) _,hy2.other (by omega) _,hyb.setCell (p:=⟨B,0,none⟩) (Nat.le_of_lt hBw) _,?_⟩
   · exact (hset.block (B+3) (by omega) (fun e=>by injection e with e;omega)).trans (hkeep (B+3) (by omega) (by omega) (by omega))
   · exact (hset.block (B+4) (by omega) (fun e=>by injection e with e;omega)).trans (hkeep (B+4) (by omega) (by omega) (by omega))
   · rw [List.length_append];exact hy0.set _
   · unfold Own;rw [oM,List.length_append];exact hrow
   · have:=hset.size;omega
 case done =>
  rintro D l W hD hl ⟨o,cy,HA,hS⟩ hK;have hb0:=hS.box.cell;have hb1:=hS.Pv.cell;have hf1:=hS.Pv.frozen;have hb2:=hS.Yg.cell;have aaH:=hS.siz;have hmx:prog.follows .mixedOrders=true:=by kernel_rfl
  have hcy:=HA.out.carry;have hlen:=HA.out.len;have hdone:=HA.out.done hl HL.out;have adH:=vE HA.out.lt (show cy<4294967296 by omega);have hol:o.length=xs.length:=by rw [hlen];have:=congrArg List.length hl;simpa [kN] using this
  have hcall:=qK W.drew 0 0 cy (B+1) (by decide) (by decide) hcy hb1 hf1;rw [show (0+0+cy)%4294967296=cy by omega,show (0+0+cy)/4294967296=0 by omega,show (((0:Nat)):Int)=0 from rfl] at hcall;obtain ⟨W1,hW1⟩:∃ W1,W.drew.setCell ⟨B+1,0,none⟩ (.int .u32 0)=W1:=⟨_,rfl⟩;rw [hW1] at hcall;have hsz1:W1.heap.size=W.heap.size:=by rw [← hW1];simp [World.setCell]
  have hg1:W.grownBy W1 (some (B+1)):=by rw [← hW1];have hq:=grownBy_setCell' W.drew (B+1) (.int .u32 0);exact ⟨hq.os,hq.tape,hq.output,hq.size,hq.block⟩
  have hown1:(W1.alloc (.cells #[.int .u32 (cy:Nat)] 57)).ownsRow w.heap.size 57 1 (.slice (some ⟨w.heap.size,0,none⟩) o.length (xs.length+1)) o.length (tL o) :=
   World.ownsRow.alloc (World.ownsRow.kept hS.own hg1 (.inr (by simp [Value.ownBlock];omega))) _
  have hx0:=hS.box.kept hg1 (by intro e;injection e with e;omega);have hxb:Below w.heap.size w W1:=hS.Hz.grown hg1 hS.Hz.size (fun k e=>by injection e with e;omega);have hko:KeepsOthers W W1:=by rw [← hW1];exact (KeepsOthers.drew W).trans (KeepsOthers.setCell _ _ _)
  obtain ⟨W2,hrun,hown2,hgrow2⟩:=run_append_fits (P:=prog) (W1.alloc (.cells #[.int .u32 (cy:Nat)] 57)) w.heap.size 24 24 57 i0 1 underlying24 hi hz1 w.heap.size o.length (xs.length+1) (tL o) hown1
   ⟨W1.heap.size,0,none⟩ 1 1 [.int .u32 (cy:Nat)] rfl (by intro j u hj;cases j with | zero=>simp at hj;subst hj;simp [Addr.add] | succ j=>simp at hj) (by simp [Value.oneCell']) (by omega)
  have hyb:Below w.heap.size w W2:=(hxb.alloc hxb.size _).grown hgrow2 (by have:=hxb.size;rw [World.size_alloc];omega) (fun k e=>by injection e with e;omega)
  have Eb:KeepsOthers W W2:=(hko.trans (KeepsOthers.alloc _ _)).trans (KeepsOthers.of_grownBy hgrow2 fun j ob ej hj=>by
   cases ej;rcases hown1.2 with ⟨h',_⟩ | ⟨g',cap',cur,h',_,hg,_⟩
   · cases h'
   · cases h';rw [hg] at hj;cases hj;rfl)
  have hK2:=Eb.same D _ hK rfl;have hu:U W2 (.slice (some ⟨w.heap.size,0,none⟩) (o.length+1) (xs.length+1)) (o++[cy]):=by refine Own.Ht (base:=w.heap.size) ?_ adH (by rw [List.length_append,List.length_singleton];omega);unfold Own;rw [oM,List.length_append];exact hown2
  have aaF:=hx0.cell;have aaG:=(hx0.alloc (.cells #[.int .u32 (cy:Nat)] 57)).cell;obtain ⟨ht1,ht2,ht3⟩:=jW hrun;have HD:=Lib.hid hdone;clear hrun hW1 hsz1 hg1 hlen hdone hol hl;gi_wp2;refine DV ?_;gi_region_with_o (first | (refine ⟨trivial,?_⟩;gi_at_call 147;refine (callsIn_wide.2 hcall).mono ?_;rintro e w' ⟨rfl,rfl⟩) | (refine ⟨trivial,?_⟩;gi_at_call 92;refine (callsIn_wide.2 (mY _ _ _ hu)).mono ?_;rintro e w' ⟨⟨z,rfl,hz⟩,rfl⟩));all_goals unfold zH
  all_goals gi_wp2
  all_goals
   refine ⟨by simp,.inl ⟨_,_,rfl,run_takeDeferred hK2,?_⟩⟩;refine ⟨_,results_tmp rfl _ _ _,⟨_,rfl,?_⟩,hyb.trans (belowK_b (w:=w) (Nat.le_refl _) _ D _ _ (by omega) hK2 rfl rfl)⟩;rw [HD.out] at hz;exact hz.put hK2 rfl _
 case stop =>rintro D cc pre W hD _ h _;exact h.elim
end
open Go.Shelf
attribute [local go_sem] Oper.semAt_some
attribute [local go_sem ↓] pI
attribute [local go_sem] je
set_option maxRecDepth 100000 in
theorem add_lt (w:World) (v u:Value) (xs ys:List Nat) (h:U w v xs) (g:U w u ys) (hl:ys.length<xs.length) (hm:xs.length≤1000000000) :CallsIn Fence.wide 4 prog 73 #[u,v] w fun e w'=>(∃ z,e = .returned z∧Un w' z (val xs+val ys))∧Below w.heap.size w w':=by
 obtain ⟨A,c,rfl,⟨hc,_⟩,hx,hr⟩:=id h;obtain ⟨A2,c2,rfl,⟨hc2,_⟩,hx2,hr2⟩:=id g;clear hr hr2;have hl1:decide (ys.length<xs.length)=true:=by rw [decide_eq_true_iff];omega
 have HL:=Lib.hid (Nat.le_of_lt hl);clear hl;obtain ⟨i0,hi,hz0,hz1,hz2⟩:=info_parts info57;refine callsIn_of_wp_marks func73 rfl trivial ?_ rfl;simp only [ntmps73,List.size_toArray,List.length_cons,List.length_nil,Nat.reduceAdd,Nat.reduceSub,Array.replicate_succ,Array.replicate_zero,List.push_toArray,List.append_toArray,List.nil_append,List.cons_append];gi_wp2_with (first | (gi_at_make;refine wpListIn_make_own _ rfl _ _ 24 rfl w.heap.size 57 i0 (.int .u32 0) 1 underlying24 hi hz0 hz1 _ _ _ (xs.length+1) rfl rfl (by omega) (by rw [hz2];omega) (by unfold maxLen;omega) (Nat.le_refl _) ?_;intro w1 hown hgrow) | (refine ⟨trivial,?_⟩;gi_at_call 124;refine (callsIn_wide.2 (DU _)).mono ?_;rintro e w' ⟨rfl,rfl⟩) | (refine ⟨trivial,?_⟩;gi_at_call 125;refine (callsIn_wide.2 (yc _ _ _ _ _ _ _)).mono ?_;rintro e w' ⟨rfl,rfl⟩));obtain ⟨B,hB⟩:∃ B,w1.heap.size=B:=⟨_,rfl⟩;obtain ⟨W0,hW0⟩:∃ W0,(((((w1.alloc (.cells #[.slice (some ⟨w.heap.size,0,none⟩) 0 (xs.length+1)] 24)).alloc (.cells #[.int .u32 0] 57)).alloc (.cells #[.func (.func 147) #[] #[.pointer (some ⟨w1.heap.size+1,0,none⟩)]] 127)).alloc (.cells #[.slice A xs.length c] 24)).alloc (.cells #[.slice A2 ys.length c2] 24))=W0:=⟨_,rfl⟩;have hB1:Below w.heap.size w w1:=(Below.refl _ _).grown hgrow (Nat.le_refl _) (fun _ h=>by cases h);have XR:=hB1.size;have hB0:Below w.heap.size w W0:=by rw [← hW0];exact ((((hB1.alloc (by omega) _).alloc (by simp;omega) _).alloc (by simp;omega) _).alloc (by simp;omega) _).alloc (by simp;omega) _
 have hsz:W0.heap.size=B+5:=by rw [← hW0,← hB];simp
 have b0:Boxed W0 B 24 (.slice (some ⟨w.heap.size,0,none⟩) 0 (xs.length+1)):=by rw [← hW0,← hB];exact ((((Boxed.new w1 24 _).alloc _).alloc _).alloc _).alloc _
 have b1:Boxed W0 (B+1) 57 (.int .u32 0):=by rw [← hW0,← hB];have:=((((Boxed.new (w1.alloc (.cells #[.slice (some ⟨w.heap.size,0,none⟩) 0 (xs.length+1)] 24)) 57 (.int .u32 0)).alloc (.cells #[.func (.func 147) #[] #[.pointer (some ⟨w1.heap.size+1,0,none⟩)]] 127)).alloc (.cells #[.slice A xs.length c] 24)).alloc (.cells #[.slice A2 ys.length c2] 24));simpa using this
 have b2:Boxed W0 (B+2) 127 (.func (.func 147) #[] #[.pointer (some ⟨B+1,0,none⟩)]):=by rw [← hW0,← hB];have:=(((Boxed.new ((w1.alloc (.cells #[.slice (some ⟨w.heap.size,0,none⟩) 0 (xs.length+1)] 24)).alloc (.cells #[.int .u32 0] 57)) 127 (.func (.func 147) #[] #[.pointer (some ⟨w1.heap.size+1,0,none⟩)])).alloc (.cells #[.slice A xs.length c] 24)).alloc (.cells #[.slice A2 ys.length c2] 24));simpa using this
 have b3:Boxed W0 (B+3) 24 (.slice A xs.length c):=by rw [← hW0,← hB];have:=((Boxed.new (((w1.alloc (.cells #[.slice (some ⟨w.heap.size,0,none⟩) 0 (xs.length+1)] 24)).alloc (.cells #[.int .u32 0] 57)).alloc (.cells #[.func (.func 147) #[] #[.pointer (some ⟨w1.heap.size+1,0,none⟩)]] 127)) 24 (.slice A xs.length c)).alloc (.cells #[.slice A2 ys.length c2] 24));simpa using this
 have b4:Boxed W0 (B+4) 24 (.slice A2 ys.length c2):=by rw [← hW0,← hB];have:=(Boxed.new ((((w1.alloc (.cells #[.slice (some ⟨w.heap.size,0,none⟩) 0 (xs.length+1)] 24)).alloc (.cells #[.int .u32 0] 57)).alloc (.cells #[.func (.func 147) #[] #[.pointer (some ⟨w1.heap.size+1,0,none⟩)]] 127)).alloc (.cells #[.slice A xs.length c] 24)) 24 (.slice A2 ys.length c2));simpa using this
 have hown0:Own W0 w.heap.size (.slice (some ⟨w.heap.size,0,none⟩) ([]:List Nat).length (xs.length+1)) []:=by rw [← hW0];exact ((((World.ownsRow.alloc hown _).alloc _).alloc _).alloc _).alloc _
 have hS0:BR w B w.heap.size (xs.length+1) 147 [] 0 W0:=⟨b0,hown0,b1,b2,hB0,by omega⟩;have hBw:w.heap.size<B:=by have:=(World.ownsRow.lt hown w.heap.size rfl).2;omega
 have hWr:Boxed W0 B 24 (.slice (some ⟨w.heap.size,0,none⟩) 0 (xs.length+1)):=b0;rw [hW0];rw [hB];clear hW0 b0 b1 b2 hown0 hown hgrow hB1 XR hWr hB
 refine wpIn_rangeFunc_ownG rfl (by omega) (gf := 149) (lb:=#[.pointer (some ⟨B+4,0,none⟩),.pointer (some ⟨B+3,0,none⟩)]) rfl trivial (enters_of func149 (by kernel_rfl) rfl)
  (yf (B+3) (B+4) _ _ xs ys w W0 hB0 HL.out (by omega) (by omega) b3 b4 h g) Pt.trans (XQ (by omega) (by omega) (by omega)) (Below.refl _ _) (fun _=>rfl)
  (fun pre W=>∃ o cy,Hid (rW pre o cy)∧BR w B w.heap.size (xs.length+1) 147 o cy W)
  (fun c pre W=>False)
  (fun s X Y row hs hg hr=>by obtain ⟨o,cy,ha,hs⟩:=hs;exact ⟨o,cy,ha,hs.grown hg (by omega) hr⟩)
  (fun c s X Y row hs hg hr=>hs)
  ⟨[],0,rW.start,hS0⟩
  (fun x=>{ tmps:=#[.slice A xs.length c,.slice A2 ys.length c2,undef,undef,.slice none 0 0,A0a B,.pointer (some ⟨B+1+1,0,none⟩),.int .u32 (x.1.1:Int),.int .u32 (x.1.2:Int),.slice A2 ys.length c2,.int .i64 (ys.length:Int),.slice A xs.length c,.int .i64 (xs.length:Int),.bool true,.slice A xs.length c,.slice A2 ys.length c2,.slice A xs.length c,.int .i64 (xs.length:Int),.int .i64 ((xs.length:Int)+1),.slice (some ⟨w.heap.size,0,none⟩) 0 (xs.length+1),.func (.func 147) #[] #[.pointer (some ⟨B+1,0,none⟩)],.slice A xs.length c,.slice A2 ys.length c2,.func (.func 149) #[] #[.pointer (some ⟨B+1+1+1+1,0,none⟩),.pointer (some ⟨B+1+1+1,0,none⟩)],.int .u32 (x.1.1:Int),.int .u32 (x.1.2:Int),undef,undef,undef,undef,undef,undef,undef,undef,undef,undef,undef,undef,undef],defers:=[] }) ?assign ?body ?done ?stop
 case assign =>intro l x W K hK;gi_wp2;exact hK
 case body =>
  rintro l pre x W ⟨o,cy,HA,hS⟩ hpl;have hb0:=hS.box.cell;have hf0:=hS.box.frozen;have hb1:=hS.Pv.cell;have hf1:=hS.Pv.frozen;have hb2:=hS.Yg.cell;have hmx:prog.follows .mixedOrders=true:=by kernel_rfl
  have hcy:=HA.out.carry;have hlen:=HA.out.len;have hol:o.length+1≤xs.length+1:=by omega
  have HA2:=Lib.hid (HA.out.step x);obtain ⟨d,hd⟩:∃ d,(x.1.1+x.1.2+cy)%4294967296=d:=⟨_,rfl⟩;obtain ⟨cz,hcz⟩:∃ d,(x.1.1+x.1.2+cy)/4294967296=d:=⟨_,rfl⟩;have hcall:=qK W.drew x.1.1 x.1.2 cy (B+1) x.2.1 x.2.2 hcy hb1 hf1;rw [hd,hcz] at hcall HA2;obtain ⟨W1,hW1⟩:∃ W1,W.drew.setCell ⟨B+1,0,none⟩ (.int .u32 (cz:Nat))=W1:=⟨_,rfl⟩;rw [hW1] at hcall;have hsz1:W1.heap.size=W.heap.size:=by rw [← hW1];simp [World.setCell]
  have hg1:W.grownBy W1 (some (B+1)):=by rw [← hW1];have hq:=grownBy_setCell' W.drew (B+1) (.int .u32 (cz:Nat));exact ⟨hq.os,hq.tape,hq.output,hq.size,hq.block⟩
  have hown1:(W1.alloc (.cells #[.int .u32 (d:Nat)] 57)).ownsRow w.heap.size 57 1 (.slice (some ⟨w.heap.size,0,none⟩) o.length (xs.length+1)) o.length (tL o) :=
   World.ownsRow.alloc (World.ownsRow.kept hS.own hg1 (.inr (by simp [Value.ownBlock];omega))) _
  have hx0:=hS.box.kept hg1 (by intro e;injection e with e;omega);have hx2:=hS.Yg.kept hg1 (by intro e;injection e with e;omega);have hx1:Boxed W1 (B+1) 57 (.int .u32 (cz:Nat)):=by rw [← hW1];exact Boxed.set (W:=W.drew) _ hS.Pv
  have hxb:Below w.heap.size w W1:=hS.Hz.grown hg1 hS.Hz.size (fun k e=>by injection e with e;omega);have hxW:Below w.heap.size W W1:=(Below.refl _ W).grown hg1 hS.Hz.size (fun k e=>by injection e with e;omega);have hko:KeepsOthers W W1:=by rw [← hW1];exact (KeepsOthers.drew W).trans (KeepsOthers.setCell _ _ _)
  obtain ⟨W2,hrun,hown2,hgrow2⟩:=run_append_fits (P:=prog) (W1.alloc (.cells #[.int .u32 (d:Nat)] 57)) w.heap.size 24 24 57 i0 1 underlying24 hi hz1 w.heap.size o.length (xs.length+1) (tL o) hown1
   ⟨W1.heap.size,0,none⟩ 1 1 [.int .u32 (d:Nat)] rfl (by intro j u hj;cases j with | zero=>simp at hj;subst hj;simp [Addr.add] | succ j=>simp at hj) (by simp [Value.oneCell']) hol
  have hy0:=(hx0.alloc (.cells #[.int .u32 (d:Nat)] 57)).kept hgrow2 (by intro e;injection e with e;omega);have hy1:=(hx1.alloc (.cells #[.int .u32 (d:Nat)] 57)).kept hgrow2 (by intro e;injection e with e;omega);have hy2:=(hx2.alloc (.cells #[.int .u32 (d:Nat)] 57)).kept hgrow2 (by intro e;injection e with e;omega);have hyb:Below w.heap.size w W2:=(hxb.alloc hxb.size _).grown hgrow2 (by have:=hxb.size;rw [World.size_alloc];omega) (fun k e=>by injection e with e;omega);have hyW:Below w.heap.size W W2:=(hxW.alloc hxb.size _).grown hgrow2 (by have:=hxb.size;rw [World.size_alloc];omega) (fun k e=>by injection e with e;omega)
  have hkeep:∀ k,k<W.heap.size→k≠B+1→k≠w.heap.size→W2.heap[k]?=W.heap[k]?:=fun k h1 h2 h3 =>
   ((hgrow2.block k (by rw [World.size_alloc];omega) (fun e=>h3 (by injection e))).trans (Below.heap_alloc _ _ k (by omega))).trans (hg1.block k h1 (fun e=>h2 (by injection e)))
  have Eb:KeepsOthers W W2:=(hko.trans (KeepsOthers.alloc _ _)).trans (KeepsOthers.of_grownBy hgrow2 fun j ob ej hj=>by
   cases ej;rcases hown1.2 with ⟨h',_⟩ | ⟨g',cap',cur,h',_,hg,_⟩
   · cases h'
   · cases h';rw [hg] at hj;cases hj;rfl)
  have agS:=hy0.cell;have aaF:=hx0.cell;have aaG:=(hx0.alloc (.cells #[.int .u32 (d:Nat)] 57)).cell;have agT:=hy0.frozen;have HW1:=Lib.hid hsz1;obtain ⟨ht1,ht2,ht3⟩:=jW hrun;clear hrun hW1 hsz1 hd hcz hg1 hlen;gi_wp2;gi_region_with_o ((refine ⟨trivial,?_⟩;gi_at_call 147;refine (CallsIn.inRound l (callsIn_wide.2 hcall)).mono ?_;rintro e w' ⟨rfl,rfl⟩));all_goals gi_wp2
  all_goals
   have aaH:=hS.siz;have agU:=Eb.size;have hset:=grownBy_setCell' W2 B (.slice (some ⟨w.heap.size,0,none⟩) (o.length+1) (xs.length+1))
   have hrow:(W2.setCell ⟨B,0,none⟩ (.slice (some ⟨w.heap.size,0,none⟩) (o.length+1) (xs.length+1))).ownsRow w.heap.size 57 1 (.slice (some ⟨w.heap.size,0,none⟩) (o.length+1) (xs.length+1)) (o.length+1) (tL o++[.int .u32 (d:Nat)]) :=
    World.ownsRow.kept hown2 hset (.inr (by simp only [Value.ownBlock];intro e;injection e with e;omega))
   refine ⟨(Eb.trans (KeepsOthers.setCell _ _ _)).from _,⟨hyW.setCell (p:=⟨B,0,none⟩) (Nat.le_of_lt hBw) _,?_,?_⟩,o++[d],cz,HA2.out,?_,?_,hy1.other (by omega) _,hy2.other (by omega) _,hyb.setCell (p:=⟨B,0,none⟩) (Nat.le_of_lt hBw) _,?_⟩
   · exact (hset.block (B+3) (by omega) (fun e=>by injection e with e;omega)).trans (hkeep (B+3) (by omega) (by omega) (by omega))
   · exact (hset.block (B+4) (by omega) (fun e=>by injection e with e;omega)).trans (hkeep (B+4) (by omega) (by omega) (by omega))
   · rw [List.length_append];exact hy0.set _
   · unfold Own;rw [oM,List.length_append];exact hrow
   · have:=hset.size;omega
 case done =>
  rintro D l W hD hl ⟨o,cy,HA,hS⟩ hK;have hb0:=hS.box.cell;have hb1:=hS.Pv.cell;have hf1:=hS.Pv.frozen;have hb2:=hS.Yg.cell;have aaH:=hS.siz;have hmx:prog.follows .mixedOrders=true:=by kernel_rfl
  have hcy:=HA.out.carry;have hlen:=HA.out.len;have hdone:=HA.out.done hl HL.out;have adH:=vE HA.out.lt (show cy<4294967296 by omega);have hol:o.length=xs.length:=by rw [hlen];have:=congrArg List.length hl;simpa [kN] using this
  have hcall:=qK W.drew 0 0 cy (B+1) (by decide) (by decide) hcy hb1 hf1;rw [show (0+0+cy)%4294967296=cy by omega,show (0+0+cy)/4294967296=0 by omega,show (((0:Nat)):Int)=0 from rfl] at hcall;obtain ⟨W1,hW1⟩:∃ W1,W.drew.setCell ⟨B+1,0,none⟩ (.int .u32 0)=W1:=⟨_,rfl⟩;rw [hW1] at hcall;have hsz1:W1.heap.size=W.heap.size:=by rw [← hW1];simp [World.setCell]
  have hg1:W.grownBy W1 (some (B+1)):=by rw [← hW1];have hq:=grownBy_setCell' W.drew (B+1) (.int .u32 0);exact ⟨hq.os,hq.tape,hq.output,hq.size,hq.block⟩
  have hown1:(W1.alloc (.cells #[.int .u32 (cy:Nat)] 57)).ownsRow w.heap.size 57 1 (.slice (some ⟨w.heap.size,0,none⟩) o.length (xs.length+1)) o.length (tL o) :=
   World.ownsRow.alloc (World.ownsRow.kept hS.own hg1 (.inr (by simp [Value.ownBlock];omega))) _
  have hx0:=hS.box.kept hg1 (by intro e;injection e with e;omega);have hxb:Below w.heap.size w W1:=hS.Hz.grown hg1 hS.Hz.size (fun k e=>by injection e with e;omega);have hko:KeepsOthers W W1:=by rw [← hW1];exact (KeepsOthers.drew W).trans (KeepsOthers.setCell _ _ _)
  obtain ⟨W2,hrun,hown2,hgrow2⟩:=run_append_fits (P:=prog) (W1.alloc (.cells #[.int .u32 (cy:Nat)] 57)) w.heap.size 24 24 57 i0 1 underlying24 hi hz1 w.heap.size o.length (xs.length+1) (tL o) hown1
   ⟨W1.heap.size,0,none⟩ 1 1 [.int .u32 (cy:Nat)] rfl (by intro j u hj;cases j with | zero=>simp at hj;subst hj;simp [Addr.add] | succ j=>simp at hj) (by simp [Value.oneCell']) (by omega)
  have hyb:Below w.heap.size w W2:=(hxb.alloc hxb.size _).grown hgrow2 (by have:=hxb.size;rw [World.size_alloc];omega) (fun k e=>by injection e with e;omega)
  have Eb:KeepsOthers W W2:=(hko.trans (KeepsOthers.alloc _ _)).trans (KeepsOthers.of_grownBy hgrow2 fun j ob ej hj=>by
   cases ej;rcases hown1.2 with ⟨h',_⟩ | ⟨g',cap',cur,h',_,hg,_⟩
   · cases h'
   · cases h';rw [hg] at hj;cases hj;rfl)
  have hK2:=Eb.same D _ hK rfl;have hu:U W2 (.slice (some ⟨w.heap.size,0,none⟩) (o.length+1) (xs.length+1)) (o++[cy]):=by refine Own.Ht (base:=w.heap.size) ?_ adH (by rw [List.length_append,List.length_singleton];omega);unfold Own;rw [oM,List.length_append];exact hown2
  have aaF:=hx0.cell;have aaG:=(hx0.alloc (.cells #[.int .u32 (cy:Nat)] 57)).cell;obtain ⟨ht1,ht2,ht3⟩:=jW hrun;have HD:=Lib.hid hdone;clear hrun hW1 hsz1 hg1 hlen hdone hol hl;gi_wp2;refine DV ?_;gi_region_with_o (first | (refine ⟨trivial,?_⟩;gi_at_call 147;refine (callsIn_wide.2 hcall).mono ?_;rintro e w' ⟨rfl,rfl⟩) | (refine ⟨trivial,?_⟩;gi_at_call 92;refine (callsIn_wide.2 (mY _ _ _ hu)).mono ?_;rintro e w' ⟨⟨z,rfl,hz⟩,rfl⟩));all_goals unfold zH
  all_goals gi_wp2
  all_goals
   refine ⟨by simp,.inl ⟨_,_,rfl,run_takeDeferred hK2,?_⟩⟩;refine ⟨_,results_tmp rfl _ _ _,⟨_,rfl,?_⟩,hyb.trans (belowK_b (w:=w) (Nat.le_refl _) _ D _ _ (by omega) hK2 rfl rfl)⟩;rw [HD.out] at hz;exact hz.put hK2 rfl _
 case stop =>rintro D cc pre W hD _ h _;exact h.elim
theorem Pw (w:World) (v u:Value) (xs ys:List Nat) (h:U w v xs) (g:U w u ys) (hm:xs.length≤1000000000) (hm2:ys.length≤1000000000) :Calls prog 73 #[v,u] w fun e w'=>(∃ z,e = .returned z∧Un w' z (val xs+val ys))∧Below w.heap.size w w':=by
 rcases Nat.lt_or_ge xs.length ys.length with hl | hl
 · have:=callsIn_wide.1 (add_lt w u v ys xs g h hl hm2);grind
 · exact callsIn_wide.1 (adG w v u xs ys h g hl hm)
