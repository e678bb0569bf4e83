/- Lehmer's greatest common divisor. -/
import Derived.Test.YtnilonnkcbkdmaaGreatDoorBaz
import Derived.Test.YtnilonnkcbkdmaaGreatDoorBat

namespace Go.Proofs.YtnilonnkcbkdmaaGreatDoor
open Go.RowKit
set_option linter.all false
set_option maxRecDepth 100000
set_option maxHeartbeats 8000000
theorem Xt.putObj {X:World} {lp:Nat} {o:Obj} (h:X.heap[lp]?=some o) (ho:o.isCells=false) (o':Obj):Xt [lp] X (X.putObj lp o'):=by
 refine ⟨rfl,rfl,rfl,fun k hk hn=>World.putObj_heap_other (fun e=>hn (by simp [e])),by simp,fun a k e=>?_⟩
 by_cases hb:a.block=lp
 · exfalso
   subst hb
   unfold World.cell? at e
   rw [h] at e
   cases o<;>simp [Obj.isCells] at ho e
 · unfold World.cell? at *
   rw [World.putObj_heap_other hb];exact e
theorem Xt.obj {Bs:List Nat} {w w':World} {k:Nat} {o:Obj} (h:Xt Bs w w') (ho:w.heap[k]?=some o) (hn:k∉Bs):w'.heap[k]?=some o:=(h.block k (Array.getElem?_eq_some_iff.1 ho).1 hn).trans ho
theorem Ext.xt {w X Y:World} {Cs:List Nat} (h:Ext w X) (hX:Xt Cs X Y) (hC:∀ k∈Cs,w.heap.size≤k):Ext w Y :=
 ⟨hX.os.trans h.os,hX.tape.trans h.tape,hX.output.trans h.output,Nat.le_trans h.size hX.kp.1,fun k hk=>(hX.block k (Nat.lt_of_lt_of_le hk h.size) fun hc=>by have:=hC k hc;omega).trans (h.block k hk)⟩
theorem Cb.fO {w:World} {N:Nat} {T:TypeId} {cs:List Value} {A:Option Addr} {n c:Nat} (h:Cb w N T cs) {j:Nat} (hj:cs[j]?=some (.slice A n c)):(Instr.loadAt 22 (.pointer (some ⟨N,j,none⟩))).run Tryz.prog w = .ok (.slice A n c) w:=by
 have hc:=h.cellAt hj
 clear h hj
 go_simp
theorem Gf (N:Nat) (X:World):(Instr.fieldAt 72 (.pointer (some ⟨N,0,none⟩)) 0).run Tryz.prog X = .ok (.pointer (some ⟨N,0,none⟩)) X:=by go_simp
theorem aba (N:Nat) (X:World):(Instr.fieldAt 72 (.pointer (some ⟨N,0,none⟩)) 1).run Tryz.prog X = .ok (.pointer (some ⟨N,1,none⟩)) X:=by go_simp
theorem rD (A1 A2:Option Addr) (n1 c1 n2 c2:Nat):∀ u∈[Value.slice A1 n1 c1,.slice A2 n2 c2],dQ u:=by
 intro u hu k e
 subst e
 simp at hu
structure Lq (w:World) (D:Nat) (rec:Loop) (X:World):Prop where
 loop:X.heap[D+1]?=some (.loop rec)
 dfr:X.heap[D]?=some (.deferred (some []))
 ext:Ext w X
theorem Lq.xt {w X Y:World} {D:Nat} {rec:Loop} (h:Lq w D rec X) {Cs:List Nat} (hX:Xt Cs X Y) (hC:∀ k∈Cs,w.heap.size≤k∧k≠D∧k≠D+1):Lq w D rec Y :=
 ⟨hX.obj h.loop fun hc=>(hC _ hc).2.2 rfl,hX.obj h.dfr fun hc=>(hC _ hc).2.1 rfl,h.ext.xt hX fun k hk=>(hC k hk).1⟩
theorem Lq.put {w X:World} {D:Nat} {rec:Loop} (h:Lq w D rec X) (hD:w.heap.size≤D) (ahA:Loop):Lq w D ahA (X.putObj (D+1) (.loop ahA))∧Xt [D+1] X (X.putObj (D+1) (.loop ahA)):=by
 have hx:=Xt.putObj h.loop rfl (.loop ahA)
 exact ⟨⟨World.putObj_heap_same (Array.getElem?_eq_some_iff.1 h.loop).1,hx.obj h.dfr (by simp),h.ext.xt hx (by simp;omega)⟩,hx⟩
theorem YW.of {lp fn df:Nat} {p:Tmp} {v:Value} {X:World} {R:Ending→World→Prop} {rec:Loop} {tmps:Array Value} {ac bd:Code} (hrec:rec={ state:=.ready,pending:=none,fn:=fn,tmps:=tmps,params:=#[p],assign:=ac,body:=bd,defers:=df })
  (hl:X.heap[lp]?=some (.loop rec)) (h:RoundIn Fence.wide 0 Tryz.prog lp fn ((#[p].zip [v].toArray).foldl (fun tmps (t,a)=>tmps.setIfInBounds t a) tmps) ac bd X R):YW lp [v] X R:=by
 subst hrec
 exact ⟨_,hl,by simp,h⟩
theorem Lq.fin {P:Program} {w X:World} {D:Nat} {rec:Loop} (h:Lq w D { rec with state:=.busy } X) (hD:w.heap.size≤D) (hs:rec.state = .ready) (hp:rec.pending=none) :
  ∃ v X',(Instr.endRound (D+1) none).run P X = .ok v X'∧v = .bool true∧Lq w D rec X'∧Xt [D+1] X X':=by
 obtain ⟨h1,h2⟩:=h.put hD rec
 refine ⟨_,_,run_endRound none h.loop,rfl,?_⟩
 have e:({ { rec with state:=LoopState.busy } with state:=if (none:Option Code).isNone then LoopState.ready else LoopState.done,pending:=none }:Loop)=rec:=by
  cases rec;simp at hs hp;subst hs hp;rfl
 rw [e]
 exact ⟨h1,h2⟩
theorem Lq.arA {P:Program} {w X:World} {D:Nat} {rec:Loop} (h:Lq w D { rec with state:=.busy } X) (hD:w.heap.size≤D) (c:Code) :
  ∃ v X',(Instr.endRound (D+1) (some c)).run P X = .ok v X'∧v = .bool false∧Lq w D { rec with state:=.done,pending:=some c } X'∧Xt [D+1] X X':=by
 obtain ⟨h1,h2⟩:=h.put hD { rec with state:=.done,pending:=some c }
 exact ⟨_,_,run_endRound (some c) h.loop,rfl,h1,h2⟩
theorem zO {fn:Func} {n:Nat} {ds:List Deferred} {l:List (Nat × Value)} {w:World} {t:Tmp} {N:Nat} {A:Option Addr} {k c:Nat} {T:TypeId} (hr:fn.results=#[.cell t 22]) (hv:Pl.look l t=some (.pointer (some ⟨N,0,none⟩)))
  (hC:Cb w N T [.slice A k c]):∀ a,Pl.Ag n ds a l→(results fn a.tmps).run Tryz.prog w = .ok (.slice A k c) w:=fun a ha=>by
 have hl:=Cb.fO (j:=0) hC rfl
 unfold results
 rw [hr]
 have e:a.tmps.getD t undef = .pointer (some ⟨N,0,none⟩):=by rw [Array.getD_eq_getD_getElem?,ha.look t _ hv];rfl
 simp only [Instr.loadAt,Instr.sureAddr,Sem.run_bind,Sem.run_pure,Result.andThen_ok] at hl
 simp only [List.mapM_toArray,List.mapM_cons,List.mapM_nil,e,asAddr,Sem.run_bind,Sem.run_pure,Result.andThen_ok]
 simp [hl,Sem.run_bind,Result.andThen]
theorem iZ (w:World) (va vb:Value) (a b:Nat) (ha:Un w va a) (hb:Un w vb b) (hla:Sn a 90) (hlb:Sn b 90) :
  Calls Tryz.prog 21 #[va,vb] w fun e w'=>∃ z,e = .returned z∧Un w' z (Nat.gcd a b)∧Ext w w':=by
 obtain ⟨Aa,ca,rfl,-⟩:=Un.sh ha
 obtain ⟨Ab,cb,rfl,-⟩:=Un.sh hb
 refine Pl.Dn (n:=41) (vs:=[.slice Aa (limbs a).length ca,.slice Ab (limbs b).length cb]) Tryz.func21 rfl (by kernel_rfl) (by simp) ?_
 repeat refine Pl.az ?_
 refine Pl.ay (by kernel_rfl) ?_
 refine eH rfl rfl rfl rfl (z:=.slice none 0 0) (by kernel_rfl) (fun _ _=>trivial) ?_
 intro Nr w1 hB1 hNr Vv
 replace Vv:Cb w1 Nr 22 [.slice none 0 0]:=Vv
 refine Pl.ak ?_
 repeat refine Pl.az ?_
 refine Pl.ay (by kernel_rfl) ?_
 refine Pl.ah trivial rfl rfl rfl rfl rfl ?_
 refine Pl.ah trivial rfl rfl rfl rfl rfl ?_
 refine R3 trivial rfl rfl rfl rfl rfl rfl ?_
 refine eH rfl rfl rfl rfl (z:=.agg #[.slice none 0 0,.slice none 0 0]) (by kernel_rfl) (fun _ _=>trivial) ?_
 intro Nl w2 hB2 hNl kl2
 replace kl2:Cb w2 Nl 72 [.slice none 0 0,.slice none 0 0]:=kl2
 refine fT (new:=[.slice Aa (limbs a).length ca,.slice Ab (limbs b).length cb]) kl2 rfl rfl rfl rfl rfl rfl (by kernel_rfl) rfl (by simp [Value.oneCell']) trivial ?_
 have kl3:=Cb.put kl2 [.slice Aa (limbs a).length ca,.slice Ab (limbs b).length cb]
 have x3:Xt [Nl] w2 (w2.setRow Nl ([.slice Aa (limbs a).length ca,.slice Ab (limbs b).length cb]:List Value).toArray):=Xt.put kl2 (rD _ _ _ _ _ _) (by simp) _
 have hrl:Nr≠Nl:=by have:=Vv.lt;omega
 have kr3:=x3.cb (Cb.ext Vv hB2) (by simpa using hrl)
 have hwl:w.heap.size≤Nl:=Nat.le_trans hB1.size hNl
 have pE:=(hB1.below hB2).xt x3 (by simpa using hwl)
 generalize w2.setRow Nl ([.slice Aa (limbs a).length ca,.slice Ab (limbs b).length cb]:List Value).toArray=w3 at *
 refine Pl.ak ?_
 repeat refine Pl.az ?_
 refine Pl.ay (by kernel_rfl) ?_
 refine Pl.ah trivial rfl rfl rfl rfl rfl ?_
 refine Pl.ah trivial rfl rfl rfl rfl rfl ?_
 refine Pl.aA rfl rfl rfl rfl rfl (fun u X=>Pl.enters Tryz.func49 (by kernel_rfl) rfl u X) ?_
 refine Calls.mono (vU _ _ _ _ _ rfl rfl rfl rfl) ?_
 rintro e w4 ⟨Na,Nb,Ne,Ng,rfl,kna,knb,kne,kng,o1,o2,o3,o4,hB4⟩
 refine ⟨_,rfl,trivial,?_⟩
 refine Pl.ak ?_
 repeat refine Pl.az ?_
 refine Pl.cK ?_
 repeat refine Pl.az ?_
 refine Pl.ML (gf := 79) (lb:=[.pointer (some ⟨Nb,0,none⟩),.pointer (some ⟨Na,0,none⟩),.pointer (some ⟨Ne,0,none⟩),.pointer (some ⟨Ng,0,none⟩)]) rfl (fun u X=>Pl.enters Tryz.func79 (by kernel_rfl) rfl u X) ?_
 intro fn tmps rec hrec hAg
 obtain ⟨D,hD⟩:∃ D,w4.heap.size=D:=⟨_,rfl⟩
 rw [hD]
 have wZ:=pE.below hB4
 have Vw:w.heap.size≤D:=by rw [← hD];exact wZ.size
 have qo:Ext w4 ((w4.alloc (.deferred (some []))).alloc (.loop rec)):=((Ext.refl w4).alloc _).alloc _
 have hL5:Lq w D rec ((w4.alloc (.deferred (some []))).alloc (.loop rec)):=⟨by rw [← hD];have:=World.alloc_heap_new (w4.alloc (.deferred (some []))) (.loop rec);rwa [World.size_alloc] at this,by rw [← hD];exact (Below.heap_alloc _ _ _ (by simp)).trans (World.alloc_heap_new w4 _),wZ.below qo⟩
 have hs5:((w4.alloc (.deferred (some []))).alloc (.loop rec)).heap.size=D+2:=by rw [World.size_alloc,World.size_alloc,hD]
 generalize (w4.alloc (.deferred (some []))).alloc (.loop rec)=w5 at *
 have aFo:Nr<w3.heap.size∧Nl<w3.heap.size:=⟨kr3.lt,kl3.lt⟩
 have hng:=kng.lt
 rw [hD] at hng
 have h34:=hB4.size
 rw [hD] at h34
 refine Calls.mono (vT w5 a b _ _ Na Nb Ne Ng 51 [] 52 [] (D+1) [Nr,Nl,D+1] (fun ql pl pr X=>Cb X Nr 22 [.slice none 0 0]∧(∃ vx vy,Cb X Nl 72 [vx,vy]∧Un X vx pr.1∧Un X vy pr.2)∧Lq w D rec X) (fun X=>(∃ A n c,Cb X Nr 22 [.slice A n c]∧Un X (.slice A n c) (Nat.gcd a b))∧Lq w D { rec with state:=.done,pending:=some .ret } X) (Cb.ext kna qo) (Cb.ext knb qo) (Cb.ext kne qo) (Cb.ext kng qo) ⟨o2,o3,o4⟩ ?J7 (Un.below ha hL5.ext) (Un.below hb hL5.ext) hla hlb ?h0 ?hI (fun u X=>Pl.enters Tryz.func51 (by kernel_rfl) rfl u X) (fun u X=>Pl.enters Tryz.func52 (by kernel_rfl) rfl u X) ?Ga ?AO ?Gb) ?_
 case J7=>intro k hk;simp at hk;rcases hk with rfl | rfl | rfl<;>omega
 case h0=>exact ⟨Cb.ext (Cb.ext kr3 hB4) qo,⟨_,_,Cb.ext (Cb.ext kl3 hB4) qo,Un.below ha hL5.ext,Un.below hb hL5.ext⟩,hL5⟩
 case hI =>
  rintro ql pl pr X Y Cs ⟨kr,⟨vx,vy,kl,hx,hy⟩,hL⟩ hX hC
  have nb:∀ N,N<D+2→N≠Na→N≠Nb→N∉Cs:=fun N hN h1 h2 hc=>by rcases hC N hc with h | h | h<;>omega
  exact ⟨hX.cb kr (nb _ (by omega) (by omega) (by omega)),⟨vx,vy,hX.cb kl (nb _ (by omega) (by omega) (by omega)),Un.kp hx hX.kp,Un.kp hy hX.kp⟩,hL.xt hX fun k hk=>by rcases hC k hk with h | h | h<;>omega⟩
 case Ga =>
  intro ql pl pr q v X hJ hpre hq hv
  refine (J9 X v).mono fun e X' h=>?_
  obtain ⟨rfl,rfl⟩:=h
  exact ⟨rfl,hJ,Xc.refl _⟩
 case AO =>
  intro pl l pr f fs n X hJ hpre ht hn
  refine (Ka X _ _).mono fun e X' h=>?_
  obtain ⟨rfl,rfl⟩:=h
  exact ⟨rfl,hJ,Xc.refl _⟩
 case Gb =>
  rintro ql pr P Q vp vq X ⟨kr,⟨vx,vy,kl,hx,hy⟩,hL⟩ htold abd hsp hsq hp hq
  obtain ⟨Ap,cp,rfl,-⟩:=Un.sh hp
  obtain ⟨Aq,cq,rfl,-⟩:=Un.sh hq
  obtain ⟨Ax,cx,rfl,-⟩:=Un.sh hx
  obtain ⟨Ay,cy,rfl,-⟩:=Un.sh hy
  refine YW.of hrec hL.loop ?_
  refine Pl.Gg (Pl.Ag.round hAg (by decide) _) ?_
  repeat refine Pl.jW ?_
  refine Pl.lI (by kernel_rfl) ?_
  refine eH rfl rfl rfl rfl (z:=.agg #[.slice none 0 0,.slice none 0 0]) (by kernel_rfl) (fun _ _=>trivial) ?_
  intro Np X1 hX1 hNp Yc
  replace Yc:Cb X1 Np 72 [.slice none 0 0,.slice none 0 0]:=Yc
  refine fT (new:=[.slice Ap (limbs P).length cp,.slice Aq (limbs Q).length cq]) Yc rfl rfl rfl rfl rfl rfl (by kernel_rfl) rfl (by simp [Value.oneCell']) trivial ?_
  have kp2:=Cb.put Yc [.slice Ap (limbs P).length cp,.slice Aq (limbs Q).length cq]
  have x2:Xt [Np] X (X1.setRow Np ([.slice Ap (limbs P).length cp,.slice Aq (limbs Q).length cq]:List Value).toArray):=(Xt.ext hX1).trans (Xt.put Yc (rD _ _ _ _ _ _) (by simp) _)
  generalize X1.setRow Np ([.slice Ap (limbs P).length cp,.slice Aq (limbs Q).length cq]:List Value).toArray=X2 at *
  refine Pl.ak ?_
  have hDX:=(Array.getElem?_eq_some_iff.1 hL.loop).1
  have hsz:D+2≤X.heap.size:=hDX
  have hwX:=hL.ext.size
  have hL2:=hL.xt x2 (by simp;omega)
  have kr2:=x2.cb kr (by simp;have:=kr.lt;omega)
  have kl2:=x2.cb kl (by simp;have:=kl.lt;omega)
  obtain ⟨hL3,x3⟩:=hL2.put Vw { rec with state:=.busy }
  have kr3:=x3.cb kr2 (by simp;omega)
  have kl3:=x3.cb kl2 (by simp;omega)
  have kp3:=x3.cb kp2 (by simp;omega)
  refine Pl.AR fun a2 ha2=>⟨_,_,ha2,run_beginRound hL2.loop (by rw [hrec]),?_⟩
  generalize X2.putObj (D+1) (.loop { rec with state:=.busy })=X3 at *
  repeat refine Pl.jW ?_
  refine Pl.Gi ?_
  repeat refine Pl.jW ?_
  refine Pl.lI (by kernel_rfl) ?_
  refine Pl.aH trivial rfl rfl rfl rfl rfl (Cb.load kp3 _ _ rfl rfl (by kernel_rfl)) ?_
  refine fT (new:=[.slice Ap (limbs P).length cp,.slice Aq (limbs Q).length cq]) kl3 rfl rfl rfl rfl rfl rfl (by kernel_rfl) rfl (by simp [Value.oneCell']) trivial ?_
  have kl4:=Cb.put kl3 [.slice Ap (limbs P).length cp,.slice Aq (limbs Q).length cq]
  have x4:Xt [Nl] X3 (X3.setRow Nl ([.slice Ap (limbs P).length cp,.slice Aq (limbs Q).length cq]:List Value).toArray):=Xt.put kl3 (rD _ _ _ _ _ _) (by simp) _
  have kr4:=x4.cb kr3 (by simpa using hrl)
  have kp4:=x4.cb kp3 (by simp;have:=kl.lt;omega)
  have hL4:=hL3.xt x4 (by simp;omega)
  generalize X3.setRow Nl ([.slice Ap (limbs P).length cp,.slice Aq (limbs Q).length cq]:List Value).toArray=X4 at *
  refine Pl.ak ?_
  have hk4:=x2.kp.trans (x3.kp.trans x4.kp)
  have hp4:=Un.kp hp hk4
  have hq4:=Un.kp hq hk4
  repeat refine Pl.jW ?_
  refine Pl.lI (by kernel_rfl) ?_
  refine bg trivial rfl rfl rfl rfl rfl (Gf _) ?_
  refine Pl.aH trivial rfl rfl rfl rfl rfl (Cb.fO (j:=0) kp4 rfl) ?_
  refine Pl.aA rfl rfl rfl rfl rfl (fun u X=>Pl.enters Tryz.func53 (by kernel_rfl) rfl u X) ?_
  refine Calls.mono (aj4 _ _ P hp4 _ _ rfl rfl) ?_
  rintro e X5 ⟨rfl,bH⟩
  refine ⟨_,rfl,trivial,?_⟩
  refine Pl.ah trivial rfl rfl rfl rfl rfl ?_
  refine Pl.aB trivial rfl rfl rfl rfl rfl rfl ?_
  refine Pl.aB trivial rfl rfl rfl rfl rfl rfl ?_
  refine Pl.aj trivial rfl rfl rfl rfl rfl ?_
  refine Pl.aj trivial rfl rfl rfl rfl rfl ?_
  refine Pl.ak ?_
  have kp5:=Cb.ext kp4 bH
  repeat refine Pl.jW ?_
  refine Pl.lI (by kernel_rfl) ?_
  refine bg trivial rfl rfl rfl rfl rfl (aba _) ?_
  refine Pl.aH trivial rfl rfl rfl rfl rfl (Cb.fO (j:=1) kp5 rfl) ?_
  refine Pl.aA rfl rfl rfl rfl rfl (fun u X=>Pl.enters Tryz.func53 (by kernel_rfl) rfl u X) ?_
  refine Calls.mono (aj4 _ _ Q (Un.below hq4 bH) _ _ rfl rfl) ?_
  rintro e X6 ⟨rfl,aZ⟩
  refine ⟨_,rfl,trivial,?_⟩
  refine Pl.ah trivial rfl rfl rfl rfl rfl ?_
  refine Pl.aB trivial rfl rfl rfl rfl rfl rfl ?_
  refine Pl.aB trivial rfl rfl rfl rfl rfl rfl ?_
  refine Pl.aj trivial rfl rfl rfl rfl rfl ?_
  refine Pl.aj trivial rfl rfl rfl rfl rfl ?_
  refine Pl.ak ?_
  have Yd:=bH.below aZ
  have kr6:=Cb.ext kr4 Yd
  have kl6:=Cb.ext kl4 Yd
  have hL6:=hL4.xt (Xt.ext (Bs:=[]) Yd) (by simp)
  have hp6:=Un.below hp4 Yd
  have hq6:=Un.below hq4 Yd
  have x46:Xc w5.heap.size [Nr,Nl,D+1,Np] X X6:=Xc.xt (((x2.mono (by simp)).trans (x3.mono (by simp))).trans ((x4.mono (by simp)).trans (Xt.ext Yd)))
  have aFr:Np≠Nr∧Np≠Nl∧Np≠D+1∧Np≠D:=by have:=kr.lt;have:=kl.lt;omega
  by_cases hbP:P<18446744073709551616
  · have e1:BQ P=true:=by simp [BQ,hbP]
    rw [e1]
    by_cases hbQ:Q<18446744073709551616
    · have e2:BQ Q=true:=by simp [BQ,hbQ]
      rw [e2]
      repeat refine Pl.jW ?_
      refine Pl.lI (by kernel_rfl) ?_
      refine Pl.ah trivial rfl rfl rfl rfl rfl ?_
      refine Pl.ah trivial rfl rfl rfl rfl rfl ?_
      refine Pl.ah trivial rfl rfl rfl rfl rfl ?_
      refine Pl.aO trivial rfl rfl rfl rfl rfl rfl ?_
      refine Pl.ak ?_
      repeat refine Pl.jW ?_
      refine Pl.ahC rfl ?_
      have e3:Gj P=P:=by simp [Gj,hbP]
      have e4:Gj Q=Q:=by simp [Gj,hbQ]
      rw [e3,e4]
      have hgl:Nat.gcd P Q<18446744073709551616:=(Nat.eq_zero_or_pos P).elim (fun h=>by rw [h,Nat.gcd_zero_left];exact hbQ) (fun h=>Nat.lt_of_le_of_lt (Nat.gcd_le_left Q h) hbP)
      repeat refine Pl.jW ?_
      refine Pl.lI (by kernel_rfl) ?_
      refine Pl.ah trivial rfl rfl rfl rfl rfl ?_
      refine Pl.ah trivial rfl rfl rfl rfl rfl ?_
      refine Pl.aA rfl rfl rfl rfl rfl (fun u X=>Pl.enters Tryz.func55 (by kernel_rfl) rfl u X) ?_
      refine Calls.mono (alI _ P Q hbP hbQ) ?_
      rintro e X7 ⟨rfl,bW⟩
      refine ⟨_,rfl,trivial,?_⟩
      refine Pl.aA rfl rfl rfl rfl rfl (fun u X=>Pl.enters Tryz.func54 (by kernel_rfl) rfl u X) ?_
      refine Calls.mono (of_B _ ((Nat.gcd P Q:Nat):Int) (by omega) (by omega) (Nat.gcd P Q) (by omega)) ?_
      rintro e X8 ⟨z,rfl,hz,cB⟩
      obtain ⟨Az,cz,rfl,-⟩:=Un.sh hz
      have kr8:=Cb.ext kr6 (bW.below cB)
      have hL8:=hL6.xt (Xt.ext (Bs:=[]) (bW.below cB)) (by simp)
      refine ⟨_,rfl,trivial,?_⟩
      refine Pl.bT rfl rfl rfl rfl rfl rfl (Cb.gK kr8 Az (limbs (Nat.gcd P Q)).length cz) trivial ?_
      have x9:=Xt.set (Bs:=[Nr]) kr8 (cZ _ _ _) (by simp) 0 (.slice Az (limbs (Nat.gcd P Q)).length cz)
      have kr9:=Cb.set kr8 0 (.slice Az (limbs (Nat.gcd P Q)).length cz)
      have hL9:=hL8.xt x9 (by simp;omega)
      generalize X8.setCell ⟨Nr,0,none⟩ (.slice Az (limbs (Nat.gcd P Q)).length cz)=X9 at *
      refine Pl.ak ?_
      repeat refine Pl.jW ?_
      refine Pl.alJ fun a3 ha3=>?_
      obtain ⟨v10,X10,ayn,rfl,abe,Kb⟩:=Lq.arA (P:=Tryz.prog) hL9 Vw .ret
      refine ⟨_,_,ayn,.inr ⟨rfl,?_⟩⟩
      rw [abd] at hz kr9
      exact ⟨⟨_,_,_,Kb.cb kr9 (by simp;omega),Un.kp (Un.kp hz x9.kp) Kb.kp⟩,abe⟩
    · have e2:BQ Q=false:=by simp [BQ,hbQ]
      rw [e2]
      repeat refine Pl.jW ?_
      refine Pl.lI (by kernel_rfl) ?_
      refine Pl.ah trivial rfl rfl rfl rfl rfl ?_
      refine Pl.ah trivial rfl rfl rfl rfl rfl ?_
      refine Pl.ah trivial rfl rfl rfl rfl rfl ?_
      refine Pl.aO trivial rfl rfl rfl rfl rfl rfl ?_
      refine Pl.ak ?_
      repeat refine Pl.jW ?_
      refine Pl.O5 rfl ?_
      repeat refine Pl.jW ?_
      refine Pl.FE ?_
      refine Pl.tF ?_
      refine Pl.AR fun a3 ha3=>?_
      obtain ⟨v7,X7,hr7,rfl,hL7,x7⟩:=Lq.fin (P:=Tryz.prog) hL6 Vw (by rw [hrec]) (by rw [hrec])
      refine ⟨_,_,hr7,.inl ⟨rfl,?_⟩⟩
      exact ⟨⟨x7.cb kr6 (by simp;omega),⟨_,_,x7.cb kl6 (by simp;omega),Un.kp hp6 x7.kp,Un.kp hq6 x7.kp⟩,hL7⟩,(x46.trans (Xc.xt (x7.mono (by simp)))).drop (by simp;omega)⟩
  · have e1:BQ P=false:=by simp [BQ,hbP]
    rw [e1]
    repeat refine Pl.jW ?_
    refine Pl.lI (by kernel_rfl) ?_
    refine Pl.ah trivial rfl rfl rfl rfl rfl ?_
    refine Pl.ah trivial rfl rfl rfl rfl rfl ?_
    refine Pl.ed rfl rfl rfl ?_
    refine Pl.aO trivial rfl rfl rfl rfl rfl rfl ?_
    refine Pl.ak ?_
    repeat refine Pl.jW ?_
    refine Pl.O5 rfl ?_
    repeat refine Pl.jW ?_
    refine Pl.FE ?_
    refine Pl.tF ?_
    refine Pl.AR fun a3 ha3=>?_
    obtain ⟨v7,X7,hr7,rfl,hL7,x7⟩:=Lq.fin (P:=Tryz.prog) hL6 Vw (by rw [hrec]) (by rw [hrec])
    refine ⟨_,_,hr7,.inl ⟨rfl,?_⟩⟩
    exact ⟨⟨x7.cb kr6 (by simp;omega),⟨_,_,x7.cb kl6 (by simp;omega),Un.kp hp6 x7.kp,Un.kp hq6 x7.kp⟩,hL7⟩,(x46.trans (Xc.xt (x7.mono (by simp)))).drop (by simp;omega)⟩
 rintro e w6 ⟨rfl,(⟨P,⟨kr,⟨vx,vy,kl,hx,hy⟩,hL⟩,hPg⟩ | ⟨⟨A,n,c,kr,hz⟩,hL⟩)⟩
 · refine ⟨_,rec,rfl,hL.loop,by rw [hrec];simp,?_⟩
   rw [hrec]
   dsimp only
   obtain ⟨hL7,x7⟩:=hL.put Vw { rec with state:=.exhausted }
   rw [hrec] at hL7 x7
   generalize w6.putObj (D+1) _=w7 at *
   have kl7:=x7.cb kl (by simp;omega)
   have kr7:=x7.cb kr (by simp;omega)
   have hx7:=Un.kp hx x7.kp
   obtain ⟨Ax,cx,rfl,-⟩:=Un.sh hx
   refine Pl.bZ ?_
   repeat refine Pl.az ?_
   refine Pl.ay (by kernel_rfl) ?_
   refine bg trivial rfl rfl rfl rfl rfl (Gf _) ?_
   refine Pl.aH trivial rfl rfl rfl rfl rfl (Cb.fO (j:=0) kl7 rfl) ?_
   refine Pl.bT rfl rfl rfl rfl rfl rfl (Cb.gK kr7 Ax (limbs P).length cx) trivial ?_
   have x8:=Xt.set (Bs:=[Nr]) kr7 (cZ _ _ _) (by simp) 0 (.slice Ax (limbs P).length cx)
   have kr8:=Cb.set kr7 0 (.slice Ax (limbs P).length cx)
   have hL8:=hL7.xt x8 (by simp;omega)
   have hx8:=Un.kp hx7 x8.kp
   generalize w7.setCell ⟨Nr,0,none⟩ (.slice Ax (limbs P).length cx)=w8 at *
   refine Pl.ak ?_
   have x9:=Xt.putObj hL8.dfr rfl (.deferred none)
   exact Pl.xM hL8.dfr (zO rfl rfl (x9.cb kr8 (by simp;omega))) ⟨_,rfl,by rw [← hPg];exact Un.kp hx8 x9.kp,hL8.ext.xt x9 (by simp;omega)⟩
 · refine ⟨_,_,rfl,hL.loop,by simp,?_⟩
   obtain ⟨hL7,x7⟩:=hL.put Vw { { rec with state:=.done,pending:=some .ret } with state:=.exhausted }
   generalize w6.putObj (D+1) _=w7 at *
   have kr7:=x7.cb kr (by simp;omega)
   have hz7:=Un.kp hz x7.kp
   have x9:=Xt.putObj hL7.dfr rfl (.deferred none)
   dsimp only
   exact Pl.Kc hL7.dfr (zO rfl rfl (x9.cb kr7 (by simp;omega))) ⟨_,rfl,Un.kp hz7 x9.kp,hL7.ext.xt x9 (by simp;omega)⟩
end Go.Proofs.YtnilonnkcbkdmaaGreatDoor
