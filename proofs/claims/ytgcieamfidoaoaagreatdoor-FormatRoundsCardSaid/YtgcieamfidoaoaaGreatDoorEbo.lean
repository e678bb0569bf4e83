/- Lehmer's greatest common divisor. -/
import Derived.Test.YtgcieamfidoaoaaGreatDoorEab
import Derived.Test.YtgcieamfidoaoaaGreatDoorEbe
import Derived.Test.YtgcieamfidoaoaaGreatDoorEbc
import Derived.Test.YtgcieamfidoaoaaGreatDoorEbn
import Derived.Test.YtgcieamfidoaoaaGreatDoorEbh
import Derived.Test.YtgcieamfidoaoaaGreatDoorEba
import Derived.Test.YtgcieamfidoaoaaGreatDoorEav
import Derived.Test.YtgcieamfidoaoaaGreatDoorEaz
import Derived.Test.YtgcieamfidoaoaaGreatDoorEac
import Derived.Test.YtgcieamfidoaoaaGreatDoorEbg
import Derived.Test.YtgcieamfidoaoaaGreatDoorEat
import Derived.Deep.Cut
import Derived.Deep.RegionHeld3
set_option linter.all false
set_option maxHeartbeats 8000000
namespace Go.Proofs.YtgcieamfidoaoaaGreatDoor
open Go.RowKit
set_option maxRecDepth 100000
theorem Xt.putObj {X:World} {lp:Nat} {o:Obj} (h:X.heap[lp]?=some o) (ho:o.isCells=false) (o':Obj):Xt [lp] X (X.putObj lp o'):=by
 refine ⟨rfl,rfl,rfl,fun k hk hn=>World.putObj_heap_other (fun e=>hn (by simp [e])),by simp,fun a k e=>?_⟩
 by_cases hb:a.block=lp
 · exfalso
   subst hb
   unfold World.cell? at e
   rw [h] at e
   cases o<;>simp [Obj.isCells] at ho e
 · unfold World.cell? at *
   rw [World.putObj_heap_other hb];exact e
theorem Xt.obj {Bs:List Nat} {w w':World} {k:Nat} {o:Obj} (h:Xt Bs w w') (ho:w.heap[k]?=some o) (hn:k∉Bs):w'.heap[k]?=some o:=(h.block k (Array.getElem?_eq_some_iff.1 ho).1 hn).trans ho
theorem Ext.xt {w X Y:World} {Cs:List Nat} (h:Ext w X) (hX:Xt Cs X Y) (hC:∀ k∈Cs,w.heap.size≤k):Ext w Y :=
 ⟨hX.os.trans h.os,hX.tape.trans h.tape,hX.output.trans h.output,Nat.le_trans h.size hX.kp.1,fun k hk=>(hX.block k (Nat.lt_of_lt_of_le hk h.size) fun hc=>by have:=hC k hc;omega).trans (h.block k hk)⟩
theorem Cb.Bo {w:World} {N:Nat} {T:TypeId} {cs:List Value} {A:Option Addr} {n c:Nat} (h:Cb w N T cs) {j:Nat} (hj:cs[j]?=some (.slice A n c)):(Instr.loadAt 24 (.pointer (some ⟨N,j,none⟩))).run Tryz.prog w = .ok (.slice A n c) w:=by
 have hc:=h.cellAt hj
 clear h hj
 go_simp
theorem IU (N:Nat) (X:World):(Instr.fieldAt 173 (.pointer (some ⟨N,0,none⟩)) 0).run Tryz.prog X = .ok (.pointer (some ⟨N,0,none⟩)) X:=by go_simp
theorem Rk (N:Nat) (X:World):(Instr.fieldAt 173 (.pointer (some ⟨N,0,none⟩)) 1).run Tryz.prog X = .ok (.pointer (some ⟨N,1,none⟩)) X:=by go_simp
theorem rO (A1 A2:Option Addr) (n1 c1 n2 c2:Nat):∀ u∈[Value.slice A1 n1 c1,.slice A2 n2 c2],wM u:=by
 intro u hu k e
 subst e
 simp at hu
structure Lq (w:World) (D:Nat) (rec:Loop) (X:World):Prop where
 loop:X.heap[D+1]?=some (.loop rec)
 Z7:X.heap[D]?=some (.deferred (some []))
 ext:Ext w X
theorem Lq.xt {w X Y:World} {D:Nat} {rec:Loop} (h:Lq w D rec X) {Cs:List Nat} (hX:Xt Cs X Y) (hC:∀ k∈Cs,w.heap.size≤k∧k≠D∧k≠D+1):Lq w D rec Y :=
 ⟨hX.obj h.loop fun hc=>(hC _ hc).2.2 rfl,hX.obj h.Z7 fun hc=>(hC _ hc).2.1 rfl,h.ext.xt hX fun k hk=>(hC k hk).1⟩
theorem Lq.put {w X:World} {D:Nat} {rec:Loop} (h:Lq w D rec X) (hD:w.heap.size≤D) (U6:Loop):Lq w D U6 (X.putObj (D+1) (.loop U6))∧Xt [D+1] X (X.putObj (D+1) (.loop U6)):=by
 have hx:=Xt.putObj h.loop rfl (.loop U6)
 exact ⟨⟨World.putObj_heap_same (Array.getElem?_eq_some_iff.1 h.loop).1,hx.obj h.Z7 (by simp),h.ext.xt hx (by simp;omega)⟩,hx⟩
theorem YW.of {lp fn df:Nat} {p:Tmp} {v:Value} {X:World} {R:Ending→World→Prop} {rec:Loop} {tmps:Array Value} {ac bd:Code} (hrec:rec={ state:=.ready,pending:=none,fn:=fn,tmps:=tmps,params:=#[p],assign:=ac,body:=bd,defers:=df })
  (hl:X.heap[lp]?=some (.loop rec)) (h:RoundIn Fence.wide 0 Tryz.prog lp fn ((#[p].zip [v].toArray).foldl (fun tmps (t,a)=>tmps.setIfInBounds t a) tmps) ac bd X R):YW lp [v] X R:=by
 subst hrec
 exact ⟨_,hl,by simp,h⟩
theorem Lq.fin {P:Program} {w X:World} {D:Nat} {rec:Loop} (h:Lq w D { rec with state:=.busy } X) (hD:w.heap.size≤D) (hs:rec.state = .ready) (hp:rec.pending=none) :
  ∃ v X',(Instr.endRound (D+1) none).run P X = .ok v X'∧v = .bool true∧Lq w D rec X'∧Xt [D+1] X X':=by
 obtain ⟨h1,h2⟩:=h.put hD rec
 refine ⟨_,_,run_endRound none h.loop,rfl,?_⟩
 have e:({ { rec with state:=LoopState.busy } with state:=if (none:Option Code).isNone then LoopState.ready else LoopState.done,pending:=none }:Loop)=rec:=by
  cases rec;simp at hs hp;subst hs hp;rfl
 rw [e]
 exact ⟨h1,h2⟩
theorem Lq.abY {P:Program} {w X:World} {D:Nat} {rec:Loop} (h:Lq w D { rec with state:=.busy } X) (hD:w.heap.size≤D) (c:Code) :
  ∃ v X',(Instr.endRound (D+1) (some c)).run P X = .ok v X'∧v = .bool false∧Lq w D { rec with state:=.done,pending:=some c } X'∧Xt [D+1] X X':=by
 obtain ⟨h1,h2⟩:=h.put hD { rec with state:=.done,pending:=some c }
 exact ⟨_,_,run_endRound (some c) h.loop,rfl,h1,h2⟩
theorem vQ {fn:Func} {n:Nat} {ds:List Deferred} {l:List (Nat × Value)} {w:World} {t:Tmp} {N:Nat} {A:Option Addr} {k c:Nat} {T:TypeId} (hr:fn.results=#[.cell t 24]) (hv:Pl.look l t=some (.pointer (some ⟨N,0,none⟩)))
  (hC:Cb w N T [.slice A k c]):∀ a,Pl.Ag n ds a l→(results fn a.tmps).run Tryz.prog w = .ok (.slice A k c) w:=fun a ha=>by
 have hl:=Cb.Bo (j:=0) hC rfl
 unfold results
 rw [hr]
 have e:a.tmps.getD t undef = .pointer (some ⟨N,0,none⟩):=by rw [Array.getD_eq_getD_getElem?,ha.look t _ hv];rfl
 simp only [Instr.loadAt,Instr.sureAddr,Sem.run_bind,Sem.run_pure,Result.andThen_ok] at hl
 simp only [List.mapM_toArray,List.mapM_cons,List.mapM_nil,e,asAddr,Sem.run_bind,Sem.run_pure,Result.andThen_ok]
 simp [hl,Sem.run_bind,Result.andThen]
theorem FP (w:World) (va vb:Value) (a b:Nat) (ha:Un w va a) (hb:Un w vb b) (hla:Sn a 70) (hlb:Sn b 70) :
  Calls Tryz.prog 163 #[va,vb] w fun e w'=>∃ z,e = .returned z∧Un w' z (Nat.gcd a b)∧Ext w w':=by
 obtain ⟨Aa,ca,rfl,-⟩:=Un.sh ha
 obtain ⟨Ab,cb,rfl,-⟩:=Un.sh hb
 refine Pl.Oy (n:=41) (vs:=[.slice Aa (limbs a).length ca,.slice Ab (limbs b).length cb]) Tryz.func163 rfl (by kernel_rfl) (by simp) ?_
 refine Pl.aab rfl ?_
 refine wK rfl rfl rfl rfl (z:=.slice none 0 0) (by kernel_rfl) (fun _ _=>trivial) ?_
 intro Nr w1 hB1 hNr WV
 replace WV:Cb w1 Nr 24 [.slice none 0 0]:=WV
 refine Pl.aH ?_
 refine Pl.aab rfl ?_
 refine Pl.jB trivial rfl ?_
 refine Kt trivial rfl rfl rfl rfl rfl rfl ?_
 refine wK rfl rfl rfl rfl (z:=.agg #[.slice none 0 0,.slice none 0 0]) (by kernel_rfl) (fun _ _=>trivial) ?_
 intro Nl w2 hB2 hNl YU
 replace YU:Cb w2 Nl 173 [.slice none 0 0,.slice none 0 0]:=YU
 refine wL (new:=[.slice Aa (limbs a).length ca,.slice Ab (limbs b).length cb]) YU rfl rfl rfl rfl rfl rfl (by kernel_rfl) rfl (by simp [Value.oneCell']) trivial ?_
 have Z8:=Cb.put YU [.slice Aa (limbs a).length ca,.slice Ab (limbs b).length cb]
 have x3:Xt [Nl] w2 (w2.setRow Nl ([.slice Aa (limbs a).length ca,.slice Ab (limbs b).length cb]:List Value).toArray):=Xt.put YU (rO _ _ _ _ _ _) (by simp) _
 have hrl:Nr≠Nl:=by have:=WV.lt;omega
 have WW:=x3.cb (Cb.ext WV hB2) (by simpa using hrl)
 have hwl:w.heap.size≤Nl:=Nat.le_trans hB1.size hNl
 have gF:=(hB1.below hB2).xt x3 (by simpa using hwl)
 generalize w2.setRow Nl ([.slice Aa (limbs a).length ca,.slice Ab (limbs b).length cb]:List Value).toArray=w3 at *
 refine Pl.aH ?_
 refine Pl.aab rfl ?_
 refine Pl.jB trivial rfl ?_
 refine Pl.bX rfl rfl rfl rfl rfl (Pl.en Tryz.func177) ?_
 refine Calls.mono (FQ _ _ _ _ _ rfl rfl rfl rfl) ?_
 rintro e w4 ⟨Na,Nb,Ne,Ng,rfl,kna,knb,kne,kng,o1,o2,o3,o4,hB4⟩
 refine ⟨_,rfl,trivial,?_⟩
 refine Pl.aH ?_
 repeat refine Pl.aG ?_
 refine Pl.ko ?_
 repeat refine Pl.aG ?_
 refine Pl.U7 (gf := 215) (lb:=[.pointer (some ⟨Nb,0,none⟩),.pointer (some ⟨Na,0,none⟩),.pointer (some ⟨Ne,0,none⟩),.pointer (some ⟨Ng,0,none⟩)]) rfl (Pl.en Tryz.func215) ?_
 intro fn tmps rec hrec hAg
 obtain ⟨D,hD⟩:∃ D,w4.heap.size=D:=⟨_,rfl⟩
 rw [hD]
 have kM:=gF.below hB4
 have Z9:w.heap.size≤D:=by rw [← hD];exact kM.size
 have Kz:Ext w4 ((w4.alloc (.deferred (some []))).alloc (.loop rec)):=((Ext.refl w4).alloc _).alloc _
 have hL5:Lq w D rec ((w4.alloc (.deferred (some []))).alloc (.loop rec)):=⟨by rw [← hD];have:=World.alloc_heap_new (w4.alloc (.deferred (some []))) (.loop rec);rwa [World.size_alloc] at this,by rw [← hD];exact (Below.heap_alloc _ _ _ (by simp)).trans (World.alloc_heap_new w4 _),kM.below Kz⟩
 have hs5:((w4.alloc (.deferred (some []))).alloc (.loop rec)).heap.size=D+2:=by rw [World.size_alloc,World.size_alloc,hD]
 generalize (w4.alloc (.deferred (some []))).alloc (.loop rec)=w5 at *
 have aje:Nr<w3.heap.size∧Nl<w3.heap.size:=⟨WW.lt,Z8.lt⟩
 have hng:=kng.lt
 rw [hD] at hng
 have h34:=hB4.size
 rw [hD] at h34
 refine Calls.mono (FM w5 a b _ _ Na Nb Ne Ng 178 [] 179 [] (D+1) [Nr,Nl,D+1] (fun ql pl pr X=>Cb X Nr 24 [.slice none 0 0]∧(∃ vx vy,Cb X Nl 173 [vx,vy]∧Un X vx pr.1∧Un X vy pr.2)∧Lq w D rec X) (fun X=>(∃ A n c,Cb X Nr 24 [.slice A n c]∧Un X (.slice A n c) (Nat.gcd a b))∧Lq w D { rec with state:=.done,pending:=some .ret } X) (Cb.ext kna Kz) (Cb.ext knb Kz) (Cb.ext kne Kz) (Cb.ext kng Kz) ⟨o2,o3,o4⟩ ?Es (Un.below ha hL5.ext) (Un.below hb hL5.ext) hla hlb ?h0 ?hI (Pl.en Tryz.func178) (Pl.en Tryz.func179) ?Et ?zo ?FN) ?_
 case Es=>intro k hk;simp at hk;rcases hk with rfl | rfl | rfl<;>omega
 case h0=>exact ⟨Cb.ext (Cb.ext WW hB4) Kz,⟨_,_,Cb.ext (Cb.ext Z8 hB4) Kz,Un.below ha hL5.ext,Un.below hb hL5.ext⟩,hL5⟩
 case hI =>
  rintro ql pl pr X Y Cs ⟨kr,⟨vx,vy,kl,hx,hy⟩,hL⟩ hX hC
  have nb:∀ N,N<D+2→N≠Na→N≠Nb→N∉Cs:=fun N hN h1 h2 hc=>by rcases hC N hc with h | h | h<;>omega
  exact ⟨hX.cb kr (nb _ (by omega) (by omega) (by omega)),⟨vx,vy,hX.cb kl (nb _ (by omega) (by omega) (by omega)),Un.kp hx hX.kp,Un.kp hy hX.kp⟩,hL.xt hX fun k hk=>by rcases hC k hk with h | h | h<;>omega⟩
 case Et =>
  intro ql pl pr q v X hJ hpre hq hv
  refine (DZ X v).mono fun e X' h=>?_
  obtain ⟨rfl,rfl⟩:=h
  exact ⟨rfl,hJ,Xc.refl _⟩
 case zo =>
  intro pl l pr f fs n X hJ hpre ht hn
  refine (D5 X _ _).mono fun e X' h=>?_
  obtain ⟨rfl,rfl⟩:=h
  exact ⟨rfl,hJ,Xc.refl _⟩
 case FN =>
  rintro ql pr P Q vp vq X ⟨kr,⟨vx,vy,kl,hx,hy⟩,hL⟩ htold YV hsp hsq hp hq
  obtain ⟨Ap,cp,rfl,-⟩:=Un.sh hp
  obtain ⟨Aq,cq,rfl,-⟩:=Un.sh hq
  obtain ⟨Ax,cx,rfl,-⟩:=Un.sh hx
  obtain ⟨Ay,cy,rfl,-⟩:=Un.sh hy
  refine YW.of hrec hL.loop ?_
  refine Pl.Rl (Pl.Ag.round hAg (by decide) _) ?_
  repeat refine Pl.kZ ?_
  refine Pl.lN (by kernel_rfl) ?_
  refine wK rfl rfl rfl rfl (z:=.agg #[.slice none 0 0,.slice none 0 0]) (by kernel_rfl) (fun _ _=>trivial) ?_
  intro Np X1 hX1 hNp kp1
  replace kp1:Cb X1 Np 173 [.slice none 0 0,.slice none 0 0]:=kp1
  refine wL (new:=[.slice Ap (limbs P).length cp,.slice Aq (limbs Q).length cq]) kp1 rfl rfl rfl rfl rfl rfl (by kernel_rfl) rfl (by simp [Value.oneCell']) trivial ?_
  have kp2:=Cb.put kp1 [.slice Ap (limbs P).length cp,.slice Aq (limbs Q).length cq]
  have x2:Xt [Np] X (X1.setRow Np ([.slice Ap (limbs P).length cp,.slice Aq (limbs Q).length cq]:List Value).toArray):=(Xt.ext hX1).trans (Xt.put kp1 (rO _ _ _ _ _ _) (by simp) _)
  generalize X1.setRow Np ([.slice Ap (limbs P).length cp,.slice Aq (limbs Q).length cq]:List Value).toArray=X2 at *
  refine Pl.aH ?_
  have hDX:=(Array.getElem?_eq_some_iff.1 hL.loop).1
  have hsz:D+2≤X.heap.size:=hDX
  have hwX:=hL.ext.size
  have hL2:=hL.xt x2 (by simp;omega)
  have kr2:=x2.cb kr (by simp;have:=kr.lt;omega)
  have YU:=x2.cb kl (by simp;have:=kl.lt;omega)
  obtain ⟨hL3,x3⟩:=hL2.put Z9 { rec with state:=.busy }
  have WW:=x3.cb kr2 (by simp;omega)
  have Z8:=x3.cb YU (by simp;omega)
  have kp3:=x3.cb kp2 (by simp;omega)
  refine Pl.KA fun a2 ha2=>⟨_,_,ha2,run_beginRound hL2.loop (by rw [hrec]),?_⟩
  generalize X2.putObj (D+1) (.loop { rec with state:=.busy })=X3 at *
  repeat refine Pl.kZ ?_
  refine Pl.Rm ?_
  repeat refine Pl.kZ ?_
  refine Pl.lN (by kernel_rfl) ?_
  refine Pl.aY trivial rfl rfl rfl rfl rfl (Cb.load kp3 _ _ rfl rfl (by kernel_rfl)) ?_
  refine wL (new:=[.slice Ap (limbs P).length cp,.slice Aq (limbs Q).length cq]) Z8 rfl rfl rfl rfl rfl rfl (by kernel_rfl) rfl (by simp [Value.oneCell']) trivial ?_
  have kl4:=Cb.put Z8 [.slice Ap (limbs P).length cp,.slice Aq (limbs Q).length cq]
  have x4:Xt [Nl] X3 (X3.setRow Nl ([.slice Ap (limbs P).length cp,.slice Aq (limbs Q).length cq]:List Value).toArray):=Xt.put Z8 (rO _ _ _ _ _ _) (by simp) _
  have YX:=x4.cb WW (by simpa using hrl)
  have kp4:=x4.cb kp3 (by simp;have:=kl.lt;omega)
  have hL4:=hL3.xt x4 (by simp;omega)
  generalize X3.setRow Nl ([.slice Ap (limbs P).length cp,.slice Aq (limbs Q).length cq]:List Value).toArray=X4 at *
  refine Pl.aH ?_
  have hk4:=x2.kp.trans (x3.kp.trans x4.kp)
  have hp4:=Un.kp hp hk4
  have hq4:=Un.kp hq hk4
  repeat refine Pl.kZ ?_
  refine Pl.lN (by kernel_rfl) ?_
  refine dR trivial rfl rfl rfl rfl rfl (IU _) ?_
  refine Pl.aY trivial rfl rfl rfl rfl rfl (Cb.Bo (j:=0) kp4 rfl) ?_
  refine Pl.bX rfl rfl rfl rfl rfl (Pl.en Tryz.func180) ?_
  refine Calls.mono (WX _ _ P hp4 _ _ rfl rfl) ?_
  rintro e X5 ⟨rfl,Eh⟩
  refine ⟨_,rfl,trivial,?_⟩
  refine Pl.jB trivial rfl ?_
  refine Pl.aH ?_
  have kp5:=Cb.ext kp4 Eh
  repeat refine Pl.kZ ?_
  refine Pl.lN (by kernel_rfl) ?_
  refine dR trivial rfl rfl rfl rfl rfl (Rk _) ?_
  refine Pl.aY trivial rfl rfl rfl rfl rfl (Cb.Bo (j:=1) kp5 rfl) ?_
  refine Pl.bX rfl rfl rfl rfl rfl (Pl.en Tryz.func180) ?_
  refine Calls.mono (WX _ _ Q (Un.below hq4 Eh) _ _ rfl rfl) ?_
  rintro e X6 ⟨rfl,DJ⟩
  refine ⟨_,rfl,trivial,?_⟩
  refine Pl.jB trivial rfl ?_
  refine Pl.aH ?_
  have Oz:=Eh.below DJ
  have kr6:=Cb.ext YX Oz
  have kl6:=Cb.ext kl4 Oz
  have hL6:=hL4.xt (Xt.ext (Bs:=[]) Oz) (by simp)
  have hp6:=Un.below hp4 Oz
  have hq6:=Un.below hq4 Oz
  have x46:Xc w5.heap.size [Nr,Nl,D+1,Np] X X6:=Xc.xt (((x2.mono (by simp)).trans (x3.mono (by simp))).trans ((x4.mono (by simp)).trans (Xt.ext Oz)))
  have ajl:Np≠Nr∧Np≠Nl∧Np≠D+1∧Np≠D:=by have:=kr.lt;have:=kl.lt;omega
  by_cases hbP:P<18446744073709551616
  · have e1:yg P=true:=by simp [yg,hbP]
    rw [e1]
    by_cases hbQ:Q<18446744073709551616
    · have e2:yg Q=true:=by simp [yg,hbQ]
      rw [e2]
      repeat refine Pl.kZ ?_
      refine Pl.lN (by kernel_rfl) ?_
      refine Pl.jB trivial rfl ?_
      refine Pl.aH ?_
      repeat refine Pl.kZ ?_
      refine Pl.U8 rfl ?_
      have e3:Cz P=P:=by simp [Cz,hbP]
      have e4:Cz Q=Q:=by simp [Cz,hbQ]
      rw [e3,e4]
      have hgl:Nat.gcd P Q<18446744073709551616:=(Nat.eq_zero_or_pos P).elim (fun h=>by rw [h,Nat.gcd_zero_left];exact hbQ) (fun h=>Nat.lt_of_le_of_lt (Nat.gcd_le_left Q h) hbP)
      repeat refine Pl.kZ ?_
      refine Pl.lN (by kernel_rfl) ?_
      refine Pl.jB trivial rfl ?_
      refine Pl.bX rfl rfl rfl rfl rfl (Pl.en Tryz.func182) ?_
      refine Calls.mono (YY _ P Q hbP hbQ) ?_
      rintro e X7 ⟨rfl,hB7⟩
      refine ⟨_,rfl,trivial,?_⟩
      refine Pl.bX rfl rfl rfl rfl rfl (Pl.en Tryz.func181) ?_
      refine Calls.mono (of_B _ ((Nat.gcd P Q:Nat):Int) (by omega) (by omega) (Nat.gcd P Q) (by omega)) ?_
      rintro e X8 ⟨z,rfl,hz,hB8⟩
      obtain ⟨Az,cz,rfl,-⟩:=Un.sh hz
      have kr8:=Cb.ext kr6 (hB7.below hB8)
      have hL8:=hL6.xt (Xt.ext (Bs:=[]) (hB7.below hB8)) (by simp)
      refine ⟨_,rfl,trivial,?_⟩
      refine Pl.eu rfl rfl rfl rfl rfl rfl (Cb.jm kr8 Az (limbs (Nat.gcd P Q)).length cz) trivial ?_
      have x9:=Xt.set (Bs:=[Nr]) kr8 (gG _ _ _) (by simp) 0 (.slice Az (limbs (Nat.gcd P Q)).length cz)
      have kr9:=Cb.set kr8 0 (.slice Az (limbs (Nat.gcd P Q)).length cz)
      have hL9:=hL8.xt x9 (by simp;omega)
      generalize X8.setCell ⟨Nr,0,none⟩ (.slice Az (limbs (Nat.gcd P Q)).length cz)=X9 at *
      refine Pl.aH ?_
      repeat refine Pl.kZ ?_
      refine Pl.YZ fun a3 ha3=>?_
      obtain ⟨v10,X10,aeT,rfl,aeU,x10⟩:=Lq.abY (P:=Tryz.prog) hL9 Z9 .ret
      refine ⟨_,_,aeT,.inr ⟨rfl,?_⟩⟩
      rw [YV] at hz kr9
      exact ⟨⟨_,_,_,x10.cb kr9 (by simp;omega),Un.kp (Un.kp hz x9.kp) x10.kp⟩,aeU⟩
    · have e2:yg Q=false:=by simp [yg,hbQ]
      rw [e2]
      repeat refine Pl.kZ ?_
      refine Pl.lN (by kernel_rfl) ?_
      refine Pl.jB trivial rfl ?_
      refine Pl.aH ?_
      repeat refine Pl.kZ ?_
      refine Pl.IV rfl ?_
      repeat refine Pl.kZ ?_
      refine Pl.Mq ?_
      refine Pl.Ac ?_
      refine Pl.KA fun a3 ha3=>?_
      obtain ⟨v7,X7,hr7,rfl,hL7,x7⟩:=Lq.fin (P:=Tryz.prog) hL6 Z9 (by rw [hrec]) (by rw [hrec])
      refine ⟨_,_,hr7,.inl ⟨rfl,?_⟩⟩
      exact ⟨⟨x7.cb kr6 (by simp;omega),⟨_,_,x7.cb kl6 (by simp;omega),Un.kp hp6 x7.kp,Un.kp hq6 x7.kp⟩,hL7⟩,(x46.trans (Xc.xt (x7.mono (by simp)))).drop (by simp;omega)⟩
  · have e1:yg P=false:=by simp [yg,hbP]
    rw [e1]
    repeat refine Pl.kZ ?_
    refine Pl.lN (by kernel_rfl) ?_
    refine Pl.jB trivial rfl ?_
    refine Pl.aH ?_
    repeat refine Pl.kZ ?_
    refine Pl.IV rfl ?_
    repeat refine Pl.kZ ?_
    refine Pl.Mq ?_
    refine Pl.Ac ?_
    refine Pl.KA fun a3 ha3=>?_
    obtain ⟨v7,X7,hr7,rfl,hL7,x7⟩:=Lq.fin (P:=Tryz.prog) hL6 Z9 (by rw [hrec]) (by rw [hrec])
    refine ⟨_,_,hr7,.inl ⟨rfl,?_⟩⟩
    exact ⟨⟨x7.cb kr6 (by simp;omega),⟨_,_,x7.cb kl6 (by simp;omega),Un.kp hp6 x7.kp,Un.kp hq6 x7.kp⟩,hL7⟩,(x46.trans (Xc.xt (x7.mono (by simp)))).drop (by simp;omega)⟩
 rintro e w6 ⟨rfl,(⟨P,⟨kr,⟨vx,vy,kl,hx,hy⟩,hL⟩,hPg⟩ | ⟨⟨A,n,c,kr,hz⟩,hL⟩)⟩
 · refine ⟨_,rec,rfl,hL.loop,by rw [hrec];simp,?_⟩
   rw [hrec]
   dsimp only
   obtain ⟨hL7,x7⟩:=hL.put Z9 { rec with state:=.exhausted }
   rw [hrec] at hL7 x7
   generalize w6.putObj (D+1) _=w7 at *
   have kl7:=x7.cb kl (by simp;omega)
   have kr7:=x7.cb kr (by simp;omega)
   have hx7:=Un.kp hx x7.kp
   obtain ⟨Ax,cx,rfl,-⟩:=Un.sh hx
   refine Pl.iU ?_
   refine Pl.aab rfl ?_
   refine dR trivial rfl rfl rfl rfl rfl (IU _) ?_
   refine Pl.aY trivial rfl rfl rfl rfl rfl (Cb.Bo (j:=0) kl7 rfl) ?_
   refine Pl.eu rfl rfl rfl rfl rfl rfl (Cb.jm kr7 Ax (limbs P).length cx) trivial ?_
   have x8:=Xt.set (Bs:=[Nr]) kr7 (gG _ _ _) (by simp) 0 (.slice Ax (limbs P).length cx)
   have kr8:=Cb.set kr7 0 (.slice Ax (limbs P).length cx)
   have hL8:=hL7.xt x8 (by simp;omega)
   have hx8:=Un.kp hx7 x8.kp
   generalize w7.setCell ⟨Nr,0,none⟩ (.slice Ax (limbs P).length cx)=w8 at *
   refine Pl.aH ?_
   have x9:=Xt.putObj hL8.Z7 rfl (.deferred none)
   exact Pl.IW hL8.Z7 (vQ rfl rfl (x9.cb kr8 (by simp;omega))) ⟨_,rfl,by rw [← hPg];exact Un.kp hx8 x9.kp,hL8.ext.xt x9 (by simp;omega)⟩
 · refine ⟨_,_,rfl,hL.loop,by simp,?_⟩
   obtain ⟨hL7,x7⟩:=hL.put Z9 { { rec with state:=.done,pending:=some .ret } with state:=.exhausted }
   generalize w6.putObj (D+1) _=w7 at *
   have kr7:=x7.cb kr (by simp;omega)
   have OA:=Un.kp hz x7.kp
   have x9:=Xt.putObj hL7.Z7 rfl (.deferred none)
   dsimp only
   exact Pl.D6 hL7.Z7 (vQ rfl rfl (x9.cb kr7 (by simp;omega))) ⟨_,rfl,Un.kp OA x9.kp,hL7.ext.xt x9 (by simp;omega)⟩
end Go.Proofs.YtgcieamfidoaoaaGreatDoor
/- The greatest common divisor by halves, and by either way. -/
namespace Go.Proofs.YtgcieamfidoaoaaGreatDoor
open Go.RowKit
set_option maxRecDepth 100000
theorem NK (w:World) (va vb:Value) (a b:Nat) (ha:Un w va a) (hb:Un w vb b) (hla:Sn a 70) (hlb:Sn b 70) :
  Calls Tryz.prog 137 #[va,vb] w fun e w'=>∃ z,e = .returned z∧Un w' z (Nat.gcd a b)∧Ext w w':=by
 obtain ⟨Aa,ca,rfl,-⟩:=Un.sh ha
 obtain ⟨Ab,cb,rfl,-⟩:=Un.sh hb
 have hmin:decide ((3000:Int)≤(if ((limbs b).length:Int)<((limbs a).length:Int) then ((limbs b).length:Int) else ((limbs a).length:Int)))=false:=by unfold Sn at hla hlb;rw [decide_eq_false_iff_not];split<;>omega
 refine Pl.dF (n:=17) (vs:=[.slice Aa (limbs a).length ca,.slice Ab (limbs b).length cb]) Tryz.func137 rfl (by kernel_rfl) (by simp) ?_
 refine Pl.aab rfl ?_
 refine Pl.jB trivial rfl ?_
 refine Pl.aH ?_
 refine Pl.aab rfl ?_
 refine Pl.jB trivial rfl ?_
 refine iY trivial rfl rfl rfl rfl rfl ?_
 refine Pl.jB trivial rfl ?_
 refine iY trivial rfl rfl rfl rfl rfl ?_
 refine Y0 trivial rfl rfl rfl rfl rfl rfl ?_
 refine Pl.bn (v:=.bool false) trivial rfl rfl rfl rfl rfl rfl (fun X=>Re hmin X) ?_
 refine Pl.aH ?_
 repeat refine Pl.aG ?_
 refine Pl.gX rfl ?_
 repeat refine Pl.aG ?_
 refine Pl.iT ?_
 refine Pl.aab rfl ?_
 refine Pl.jB trivial rfl ?_
 refine Pl.bX rfl rfl rfl rfl rfl (Pl.en Tryz.func163) ?_
 refine Calls.mono (FP _ _ _ a b ha hb hla hlb) ?_
 rintro e w4 ⟨z,rfl,hz,hB4⟩
 refine ⟨_,rfl,trivial,?_⟩
 refine Pl.jB trivial rfl ?_
 refine Pl.aH ?_
 exact Pl.iV rfl rfl ⟨_,rfl,hz,hB4⟩
end Go.Proofs.YtgcieamfidoaoaaGreatDoor
/- Powers of the radix; rationals made. -/
namespace Go.Proofs.YtgcieamfidoaoaaGreatDoor
open Go.RowKit Rf Fm
set_option maxRecDepth 100000
theorem LX {k:Nat} (hk:k<304):Sn (5^k) 38:=Sn.down (bK (b:=10) (k:=k) (K:=38) (.inr rfl) (by omega)) (Nat.pow_le_pow_left (by decide) k)
theorem Ud (w:World) (p k:Nat) (lo hi:Int) (hk:k≤300) :
  Calls Tryz.prog 45 #[.agg #[.int .i64 2,.int .i64 ((p:Nat):Int),.int .i64 lo,.int .i64 hi],.int .i64 ((k:Nat):Int)] w fun e w'=>∃ u,e = .returned u∧Un w' u (2^k)∧Pl.Ex w w':=by
 refine Rf.aA (n:=16) [.a [vI 2,vI ((p:Nat):Int),vI lo,vI hi],vI ((k:Nat):Int)] [] [] Tryz.func45 rfl (by kernel_rfl) rfl rfl trivial ?_
 refine Rf.bu aa 1 0 rfl ?_
 refine Rf.ah (v:=.bool true) (fun X=>aM (by decide) X) rfl ?_
 refine Rf.bY aa 1 0 rfl ?_
 refine Rf.mH (e := 57) (m:=1) [.int .u32 1] 0 (dW 1) rfl rfl rfl (fun _ _=>rfl) (fun α γ X=>by kernel_rfl) rfl (fun N w k=>Un.one (x:=1) k rfl (by omega)) ?_
 refine Rf.ay aa 1 rfl ?_
 refine Rf.aC 1 _ _ rfl (Pl.en Tryz.func88) (fun α γ w h=>dO 1 (Hr _ _ 1 ((k:Nat):Int) (h.r 0 rfl) (by omega) (by omega) (Nat.le_trans (Sn.of (K:=1) (by decide)) (by decide)) (2^k) (by rw [Int.toNat_natCast,Nat.one_mul]))) ?_
 refine Rf.HY aa 0 1 rfl ?_
 exact Rf.aaa aa rfl (fun α γ w h=>⟨_,rfl,h.r 1 rfl,h.ex⟩)
theorem P9 (w:World) (p k:Nat) (lo hi:Int) (hk:k≤300) :
  Calls Tryz.prog 45 #[.agg #[.int .i64 10,.int .i64 ((p:Nat):Int),.int .i64 lo,.int .i64 hi],.int .i64 ((k:Nat):Int)] w fun e w'=>∃ u,e = .returned u∧Un w' u (10^k)∧Pl.Ex w w':=by
 refine Rf.aA (n:=16) [.a [vI 10,vI ((p:Nat):Int),vI lo,vI hi],vI ((k:Nat):Int)] [] [] Tryz.func45 rfl (by kernel_rfl) rfl rfl trivial ?_
 refine Rf.bu aa 1 0 rfl ?_
 refine Rf.ah (v:=.bool false) (fun X=>aK (by decide) X) rfl ?_
 refine Rf.bY aa 2 0 rfl ?_
 refine Rf.mH (e := 57) (m:=1) [.int .u32 5] 0 (dW 5) rfl rfl rfl (fun _ _=>rfl) (fun α γ X=>by kernel_rfl) rfl (fun N w k=>Un.one (x:=5) k rfl (by omega)) ?_
 refine Rf.ay aa 1 rfl ?_
 refine Rf.aC 1 _ _ rfl (Pl.en Tryz.func89) (fun α γ w h=>dO 1 (aea 78 (by decide) XV _ _ 5 k (h.r 0 rfl) (by decide) (Nat.le_trans (Sn.of (K:=1) (by decide)) (by decide)) (Nat.le_trans (LX (by omega):Sn (5^k) 38) (by decide)) (by omega) _ rfl)) ?_
 refine Rf.ay aa 1 rfl ?_
 refine Rf.aC 2 _ _ rfl (Pl.en Tryz.func88) (fun α γ w h=>dO 2 (Hr _ _ (5^k) ((k:Nat):Int) (h.r 1 rfl) (by omega) (by omega) (Nat.le_trans (LX (by omega):Sn (5^k) 38) (by decide)) (10^k) (by rw [Int.toNat_natCast,← Nat.mul_pow]))) ?_
 refine Rf.HY aa 0 1 rfl ?_
 exact Rf.aaa aa rfl (fun α γ w h=>⟨_,rfl,h.r 2 rfl,h.ex⟩)
theorem bI (w:World) (b p k:Nat) (lo hi z:Int) (hb:b=2∨b=10) (hz:z=((k:Nat):Int)) (hk:k≤300) :
  Calls Tryz.prog 45 #[.agg #[.int .i64 ((b:Nat):Int),.int .i64 ((p:Nat):Int),.int .i64 lo,.int .i64 hi],.int .i64 z] w fun e w'=>∃ u,e = .returned u∧Un w' u (b^k)∧Pl.Ex w w':=by
 subst hz
 rcases hb with rfl | rfl
 · exact Ud w p k lo hi hk
 · exact P9 w p k lo hi hk
theorem Ue (w:World) (va:Value) (n:Nat) (ha:Un w va n) (h1:n=1) (h2:(limbs n).length=1) :
  Calls Tryz.prog 164 #[va] w fun e w'=>e = .returned (.bool (decide (n=1)))∧Pl.Ex w w':=by
 obtain ⟨A,c,rfl,hb⟩:=ha
 have hl:(limbs n).length=1:=h2
 obtain ⟨x,hxs⟩:∃ x,limbs n=[x]:=List.length_eq_one_iff.1 hl
 have hn:n=x:=by have h:=aJ n;rw [hxs] at h;simpa [val] using h.symm
 have hl0:lb (limbs n) 0=n:=by rw [hxs,hn];rfl
 obtain ⟨p,hp1,hp2⟩:=U.at (⟨A,c,rfl,hb⟩:U w (.slice A (limbs n).length c) (limbs n)) (j:=0) (show 0<(limbs n).length by omega)
 rw [hl0] at hp2
 refine Rf.aA (n:=12) [.v (.slice A (limbs n).length c)] [] [] Tryz.func164 rfl (by kernel_rfl) rfl rfl trivial ?_
 refine Rf.bu aa 1 0 rfl ?_
 refine Rf.BO Tryz.underlying24 rfl rfl rfl rfl rfl ?_
 refine Rf.ah (v:=.bool true) (fun X=>aM (by omega) X) rfl ?_
 refine Rf.ay aa 0 rfl ?_
 refine Rf.wu hp1 rfl rfl rfl rfl rfl rfl ?_
 refine Rf.ww hp2 rfl rfl rfl rfl rfl ?_
 refine Rf.ah (v:=.bool true) (fun X=>Pl.xA (Pl.e_t (by omega)) X) rfl ?_
 refine Rf.HY aa 0 0 rfl ?_
 exact Rf.aaa aa rfl (fun α γ w h=>⟨by rw [decide_eq_true h1];rfl,h.ex⟩)
theorem Uf (w:World) (va:Value) (n:Nat) (ha:Un w va n) (h1:¬ n=1) (h2:(limbs n).length=1) :
  Calls Tryz.prog 164 #[va] w fun e w'=>e = .returned (.bool (decide (n=1)))∧Pl.Ex w w':=by
 obtain ⟨A,c,rfl,hb⟩:=ha
 have hl:(limbs n).length=1:=h2
 obtain ⟨x,hxs⟩:∃ x,limbs n=[x]:=List.length_eq_one_iff.1 hl
 have hn:n=x:=by have h:=aJ n;rw [hxs] at h;simpa [val] using h.symm
 have hl0:lb (limbs n) 0=n:=by rw [hxs,hn];rfl
 obtain ⟨p,hp1,hp2⟩:=U.at (⟨A,c,rfl,hb⟩:U w (.slice A (limbs n).length c) (limbs n)) (j:=0) (show 0<(limbs n).length by omega)
 rw [hl0] at hp2
 refine Rf.aA (n:=12) [.v (.slice A (limbs n).length c)] [] [] Tryz.func164 rfl (by kernel_rfl) rfl rfl trivial ?_
 refine Rf.bu aa 1 0 rfl ?_
 refine Rf.BO Tryz.underlying24 rfl rfl rfl rfl rfl ?_
 refine Rf.ah (v:=.bool true) (fun X=>aM (by omega) X) rfl ?_
 refine Rf.ay aa 0 rfl ?_
 refine Rf.wu hp1 rfl rfl rfl rfl rfl rfl ?_
 refine Rf.ww hp2 rfl rfl rfl rfl rfl ?_
 refine Rf.ah (v:=.bool false) (fun X=>Pl.xA (Pl.e_f (by omega)) X) rfl ?_
 refine Rf.HY aa 0 0 rfl ?_
 exact Rf.aaa aa rfl (fun α γ w h=>⟨by rw [decide_eq_false h1];rfl,h.ex⟩)
theorem Ug (w:World) (va:Value) (n:Nat) (ha:Un w va n) (h1:¬ n=1) (h2:¬ (limbs n).length=1) :
  Calls Tryz.prog 164 #[va] w fun e w'=>e = .returned (.bool (decide (n=1)))∧Pl.Ex w w':=by
 obtain ⟨A,c,rfl,hb⟩:=ha
 refine Rf.aA (n:=12) [.v (.slice A (limbs n).length c)] [] [] Tryz.func164 rfl (by kernel_rfl) rfl rfl trivial ?_
 refine Rf.bu aa 1 0 rfl ?_
 refine Rf.BO Tryz.underlying24 rfl rfl rfl rfl rfl ?_
 refine Rf.ah (v:=.bool false) (fun X=>aK (by omega) X) rfl ?_
 refine Rf.HY aa 0 0 rfl ?_
 exact Rf.aaa aa rfl (fun α γ w h=>⟨by rw [decide_eq_false h1];rfl,h.ex⟩)
theorem zR (w:World) (va:Value) (n:Nat) (ha:Un w va n) :
  Calls Tryz.prog 164 #[va] w fun e w'=>e = .returned (.bool (decide (n=1)))∧Pl.Ex w w':=by
 by_cases h1:n=1
 · exact Ue w va n ha h1 (by rw [h1,lG 1 (by decide) (by decide)];rfl)
 · by_cases h2:(limbs n).length=1
   · exact Uf w va n ha h1 h2
   · exact Ug w va n ha h1 h2
theorem zS (w:World) (va:Value) (n:Nat) (ha:Un w va n) (hn:Sn n 70) :
  Calls Tryz.prog 139 #[va] w fun e w'=>∃ u,e = .returned u∧Zn w' u ((n:Nat):Int)∧Pl.Ex w w':=by
 obtain ⟨Aa,ca,rfl⟩:=Un.jX ha
 refine Rf.aA (n:=5) [.c 0 0] [[.slice Aa (limbs n).length ca]] [(0,(dW n).S)] Tryz.func139 rfl (by kernel_rfl) rfl rfl ⟨RS.in ha,trivial⟩ ?_
 refine Rf.bu aa 1 0 rfl ?_
 refine Rf.aC 1 _ _ rfl (Pl.en Tryz.func49) (fun α γ w h=>gz 1 (kL _ false _ _ (h.r 0 rfl) _ (aJ _) _ rfl)) ?_
 refine Rf.HY aa 0 1 rfl ?_
 exact Rf.aaa aa rfl (fun α γ w h=>⟨_,rfl,(h.r 1 rfl),h.ex⟩)
theorem Qa (w:World) (va vb:Value) (a:Int) (n L:Nat) (ha:Zn w va a) (hb:Un w vb n) (la:Sz a L) (hL:L≤1000) (hn:Sn n 70) (h0:n≠0) (hd:a%(n:Int)=0) (h1:n=1) :
  Calls Tryz.prog 138 #[va,vb] w fun e w'=>∃ u,e = .returned u∧Zn w' u (a/(n:Int))∧Pl.Ex w w':=by
 obtain ⟨Aa,ca,rfl,ua⟩:=ha
 obtain ⟨Ab,cb,rfl⟩:=Un.jX hb
 refine Rf.aA (n:=18) [.a [.c 0 0,.c 0 1],.c 1 0] [[.bool (decide (a<0)),.slice Aa (limbs (Int.natAbs a)).length ca],[.slice Ab (limbs n).length cb]] [(0,(Wu a).S),(1,(dW n).S)] Tryz.func138 rfl (by kernel_rfl) rfl rfl ⟨RS.in ⟨Aa,ca,rfl,ua⟩,RS.in hb,trivial⟩ ?_
 refine Rf.bu aa 1 0 rfl ?_
 refine Rf.aC 2 _ _ rfl (Pl.en Tryz.func164) (fun α γ w h=>aU 2 (by have h9:=zR _ _ n (h.r 1 rfl);rw [decide_eq_true h1] at h9;exact h9)) ?_
 refine Rf.HY aa 2 2 rfl ?_
 exact Rf.aaa aa rfl (fun α γ w h=>⟨_,rfl,by rw [h1,show a/(((1:Nat):Int))=a from Int.ediv_one a];exact (h.r 0 rfl),h.ex⟩)
theorem Qb (w:World) (va vb:Value) (a:Int) (n L:Nat) (ha:Zn w va a) (hb:Un w vb n) (la:Sz a L) (hL:L≤1000) (hn:Sn n 70) (h0:n≠0) (hd:a%(n:Int)=0) (h1:¬ n=1) :
  Calls Tryz.prog 138 #[va,vb] w fun e w'=>∃ u,e = .returned u∧Zn w' u (a/(n:Int))∧Pl.Ex w w':=by
 obtain ⟨Aa,ca,rfl,ua⟩:=ha
 obtain ⟨Ab,cb,rfl⟩:=Un.jX hb
 refine Rf.aA (n:=18) [.a [.c 0 0,.c 0 1],.c 1 0] [[.bool (decide (a<0)),.slice Aa (limbs (Int.natAbs a)).length ca],[.slice Ab (limbs n).length cb]] [(0,(Wu a).S),(1,(dW n).S)] Tryz.func138 rfl (by kernel_rfl) rfl rfl ⟨RS.in ⟨Aa,ca,rfl,ua⟩,RS.in hb,trivial⟩ ?_
 refine Rf.bu aa 1 0 rfl ?_
 refine Rf.aC 2 _ _ rfl (Pl.en Tryz.func164) (fun α γ w h=>aU 2 (by have h9:=zR _ _ n (h.r 1 rfl);rw [decide_eq_false h1] at h9;exact h9)) ?_
 refine Rf.HY aa 2 0 rfl ?_
 refine Rf.aQ none fo ?_
 refine Rf.aD aa 10 2 rfl ?_
 refine Rf.ak 3 _ _ rfl (Pl.en Tryz.func139) (fun α γ w h=>gz 3 (zS _ _ n (h.r 1 rfl) hn)) ?_
 refine Rf.ak 4 (Wu (a/((n:Nat):Int))) (.t [.a [.c 4 0,.c 4 1],vT]) rfl (Pl.en Tryz.func165) (fun α γ w h=>aaG 4 (J5 _ _ _ a ((n:Nat):Int) (h.r 0 rfl) (h.r 3 rfl) (Sz.le la (by omega)) (Sz.le (Sn.sz hn) (by decide)) (by omega) hd _ rfl)) ?_
 refine Rf.aD aa 10 2 rfl ?_
 refine Rf.aW (by kernel_rfl) ?_
 refine Rf.aP [4,5] [1,2] [4] rfl ?_
 refine Rf.HX aa 1 3 rfl ?_
 exact Rf.aaa aa rfl (fun α γ w h=>⟨_,rfl,(h.r 4 rfl),h.ex⟩)
theorem xB (w:World) (va vb:Value) (a:Int) (n L:Nat) (ha:Zn w va a) (hb:Un w vb n) (la:Sz a L) (hL:L≤1000) (hn:Sn n 70) (h0:n≠0) (hd:a%(n:Int)=0) :
  Calls Tryz.prog 138 #[va,vb] w fun e w'=>∃ u,e = .returned u∧Zn w' u (a/(n:Int))∧Pl.Ex w w':=by
 by_cases h1:n=1
 · exact Qa w va vb a n L ha hb la hL hn h0 hd h1
 · exact Qb w va vb a n L ha hb la hL hn h0 hd h1
theorem E9 (w:World) (vn vd:Value) (n:Int) (d L:Nat) (hn:Zn w vn n) (hd:Un w vd d) (ln:Sz n L) (hL:L≤70) (ld:Sn d 70) (hd0:d≠0) :
  Calls Tryz.prog 97 #[vn,vd] w fun e w'=>∃ u,e = .returned u∧Qn w' u (Rat.divInt n ((d:Nat):Int)) L 70∧Pl.Ex w w':=by
 obtain ⟨An,cn,rfl,un⟩:=hn
 obtain ⟨Ad,cd,rfl⟩:=Un.jX hd
 obtain ⟨g,hgg⟩:∃ g,Nat.gcd n.natAbs d=g:=⟨_,rfl⟩
 have hg0:g≠0:=by rw [← hgg];exact fun h=>hd0 (Nat.eq_zero_of_gcd_eq_zero_right h)
 have lg:Sn g 70:=by rw [← hgg];exact Sn.down ld (Nat.gcd_le_right _ (by omega))
 have dn:n%(g:Int)=0:=by rw [← hgg];exact Int.emod_eq_zero_of_dvd (Int.dvd_natAbs.1 (Int.natCast_dvd_natCast.2 (Nat.gcd_dvd_left _ _)))
 have dd:((d:Nat):Int)%(g:Int)=0:=by rw [← hgg];exact Int.emod_eq_zero_of_dvd (Int.natCast_dvd_natCast.2 (Nat.gcd_dvd_right _ _))
 have hmk:=mk_pos (n:=n) (d:=(d:Int)) (g:=g) (by omega) hgg (by omega)
 rw [Int.natAbs_natCast] at hmk
 refine Rf.aA (n:=19) [.a [.c 0 0,.c 0 1],.c 1 0] [[.bool (decide (n<0)),.slice An (limbs (Int.natAbs n)).length cn],[.slice Ad (limbs d).length cd]] [(0,(Wu n).S),(1,(dW d).S)] Tryz.func97 rfl (by kernel_rfl) rfl rfl ⟨RS.in ⟨An,cn,rfl,un⟩,RS.in hd,trivial⟩ ?_
 refine Rf.bu aa 1 0 rfl ?_
 refine Rf.aC 2 _ _ rfl (Pl.en Tryz.func137) (fun α γ w h=>dO 2 (Calls.mono (NK _ _ _ (Int.natAbs n) d (Qc (h.r 0 rfl)) (h.r 1 rfl) (Sn.le (Sz.sn ln) (by omega)) ld) fun e w2 ⟨u,h1,h2,h3⟩=>⟨u,h1,(by rw [← hgg];exact h2:Un w2 u g),h3⟩)) ?_
 refine Rf.bY aa 0 2 rfl ?_
 refine Rf.aC 3 _ _ rfl (Pl.en Tryz.func138) (fun α γ w h=>gz 3 (xB _ _ _ n g L (h.r 0 rfl) (h.r 2 rfl) ln (by omega) lg hg0 dn)) ?_
 refine Rf.ay aa 2 rfl ?_
 refine Rf.aC 4 _ _ rfl (Pl.en Tryz.func139) (fun α γ w h=>gz 4 (zS _ _ d (h.r 1 rfl) ld)) ?_
 refine Rf.ay aa 2 rfl ?_
 refine Rf.aC 5 _ _ rfl (Pl.en Tryz.func138) (fun α γ w h=>gz 5 (xB _ _ _ ((d:Nat):Int) g 70 (h.r 4 rfl) (h.r 2 rfl) (Sn.sz ld) (by omega) lg hg0 dd)) ?_
 refine Rf.gU (.c 5 1) rfl rfl rfl (fun _ _=>rfl) (fun α γ X=>by kernel_rfl) ?_
 refine Rf.nQ (.a [.c 3 0,.c 3 1,.c 5 1]) rfl rfl rfl (fun _ _=>rfl) (fun α γ hp X=>Rf.NJ rfl rfl (Rf.ad9 (γ 3 0) (γ 3 1) (γ 5 1) (hp 5 1)) X) ?_
 refine Rf.HY aa 0 2 rfl ?_
 exact Rf.aaa aa rfl (fun α γ w h=>⟨_,rfl,aaF (h.r 3 rfl) (Qc (h.r 5 rfl)) hmk.1 hmk.2 (Sz.div ln) (Sn.Ic (Sz.div (Sn.sz ld))),h.ex⟩)
end Go.Proofs.YtgcieamfidoaoaaGreatDoor
