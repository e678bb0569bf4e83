/- Lehmer's greatest common divisor. -/
import Derived.Test.YtfhcmggpojhegaaGreatDoorBba
import Derived.Test.YtfhcmggpojhegaaGreatDoorBav
import Derived.Test.YtfhcmggpojhegaaGreatDoorBas
import Derived.Test.YtfhcmggpojhegaaGreatDoorBar
import Derived.Test.YtfhcmggpojhegaaGreatDoorBac
import Derived.Deep.RegionHeld3
import Derived.Deep.Cut

namespace Go.Proofs.YtfhcmggpojhegaaGreatDoor
open Go.RowKit
set_option linter.all false
set_option maxRecDepth 100000
set_option maxHeartbeats 8000000
theorem Xt.putObj {X:World} {lp:Nat} {o:Obj} (h:X.heap[lp]?=some o) (ho:o.isCells=false) (o':Obj):Xt [lp] X (X.putObj lp o'):=by
 refine ⟨rfl,rfl,rfl,fun k hk hn=>World.putObj_heap_other (fun e=>hn (by simp [e])),by simp,fun a k e=>?_⟩
 by_cases hb:a.block=lp
 · exfalso
   subst hb
   unfold World.cell? at e
   rw [h] at e
   cases o<;>simp [Obj.isCells] at ho e
 · unfold World.cell? at *
   rw [World.putObj_heap_other hb];exact e
theorem Xt.obj {Bs:List Nat} {w w':World} {k:Nat} {o:Obj} (h:Xt Bs w w') (ho:w.heap[k]?=some o) (hn:k∉Bs):w'.heap[k]?=some o:=(h.block k (Array.getElem?_eq_some_iff.1 ho).1 hn).trans ho
theorem Ext.xt {w X Y:World} {Cs:List Nat} (h:Ext w X) (hX:Xt Cs X Y) (hC:∀ k∈Cs,w.heap.size≤k):Ext w Y :=
 ⟨hX.os.trans h.os,hX.tape.trans h.tape,hX.output.trans h.output,Nat.le_trans h.size hX.kp.1,fun k hk=>(hX.block k (Nat.lt_of_lt_of_le hk h.size) fun hc=>by have:=hC k hc;omega).trans (h.block k hk)⟩
theorem Cb.jZ {w:World} {N:Nat} {T:TypeId} {cs:List Value} {A:Option Addr} {n c:Nat} (h:Cb w N T cs) {j:Nat} (hj:cs[j]?=some (.slice A n c)):(Instr.loadAt 22 (.pointer (some ⟨N,j,none⟩))).run Tryz.prog w = .ok (.slice A n c) w:=by
 have hc:=h.cellAt hj
 clear h hj
 go_simp
theorem zV (N:Nat) (X:World):(Instr.fieldAt 91 (.pointer (some ⟨N,0,none⟩)) 0).run Tryz.prog X = .ok (.pointer (some ⟨N,0,none⟩)) X:=by go_simp
theorem XG (N:Nat) (X:World):(Instr.fieldAt 91 (.pointer (some ⟨N,0,none⟩)) 1).run Tryz.prog X = .ok (.pointer (some ⟨N,1,none⟩)) X:=by go_simp
theorem ni (A1 A2:Option Addr) (n1 c1 n2 c2:Nat):∀ u∈[Value.slice A1 n1 c1,.slice A2 n2 c2],gF u:=by
 intro u hu k e
 subst e
 simp at hu
structure Lq (w:World) (D:Nat) (rec:Loop) (X:World):Prop where
 loop:X.heap[D+1]?=some (.loop rec)
 dfr:X.heap[D]?=some (.deferred (some []))
 ext:Ext w X
theorem Lq.xt {w X Y:World} {D:Nat} {rec:Loop} (h:Lq w D rec X) {Cs:List Nat} (hX:Xt Cs X Y) (hC:∀ k∈Cs,w.heap.size≤k∧k≠D∧k≠D+1):Lq w D rec Y :=
 ⟨hX.obj h.loop fun hc=>(hC _ hc).2.2 rfl,hX.obj h.dfr fun hc=>(hC _ hc).2.1 rfl,h.ext.xt hX fun k hk=>(hC k hk).1⟩
theorem Lq.put {w X:World} {D:Nat} {rec:Loop} (h:Lq w D rec X) (hD:w.heap.size≤D) (adb:Loop):Lq w D adb (X.putObj (D+1) (.loop adb))∧Xt [D+1] X (X.putObj (D+1) (.loop adb)):=by
 have hx:=Xt.putObj h.loop rfl (.loop adb)
 exact ⟨⟨World.putObj_heap_same (Array.getElem?_eq_some_iff.1 h.loop).1,hx.obj h.dfr (by simp),h.ext.xt hx (by simp;omega)⟩,hx⟩
theorem YW.of {lp fn df:Nat} {p:Tmp} {v:Value} {X:World} {R:Ending→World→Prop} {rec:Loop} {tmps:Array Value} {ac bd:Code} (hrec:rec={ state:=.ready,pending:=none,fn:=fn,tmps:=tmps,params:=#[p],assign:=ac,body:=bd,defers:=df })
  (hl:X.heap[lp]?=some (.loop rec)) (h:RoundIn Fence.wide 0 Tryz.prog lp fn ((#[p].zip [v].toArray).foldl (fun tmps (t,a)=>tmps.setIfInBounds t a) tmps) ac bd X R):YW lp [v] X R:=by
 subst hrec
 exact ⟨_,hl,by simp,h⟩
theorem Lq.fin {P:Program} {w X:World} {D:Nat} {rec:Loop} (h:Lq w D { rec with state:=.busy } X) (hD:w.heap.size≤D) (hs:rec.state = .ready) (hp:rec.pending=none) :
  ∃ v X',(Instr.endRound (D+1) none).run P X = .ok v X'∧v = .bool true∧Lq w D rec X'∧Xt [D+1] X X':=by
 obtain ⟨h1,h2⟩:=h.put hD rec
 refine ⟨_,_,run_endRound none h.loop,rfl,?_⟩
 have e:({ { rec with state:=LoopState.busy } with state:=if (none:Option Code).isNone then LoopState.ready else LoopState.done,pending:=none }:Loop)=rec:=by
  cases rec;simp at hs hp;subst hs hp;rfl
 rw [e]
 exact ⟨h1,h2⟩
theorem Lq.alB {P:Program} {w X:World} {D:Nat} {rec:Loop} (h:Lq w D { rec with state:=.busy } X) (hD:w.heap.size≤D) (c:Code) :
  ∃ v X',(Instr.endRound (D+1) (some c)).run P X = .ok v X'∧v = .bool false∧Lq w D { rec with state:=.done,pending:=some c } X'∧Xt [D+1] X X':=by
 obtain ⟨h1,h2⟩:=h.put hD { rec with state:=.done,pending:=some c }
 exact ⟨_,_,run_endRound (some c) h.loop,rfl,h1,h2⟩
theorem yg {fn:Func} {n:Nat} {ds:List Deferred} {l:List (Nat × Value)} {w:World} {t:Tmp} {N:Nat} {A:Option Addr} {k c:Nat} {T:TypeId} (hr:fn.results=#[.cell t 22]) (hv:Pl.look l t=some (.pointer (some ⟨N,0,none⟩)))
  (hC:Cb w N T [.slice A k c]):∀ a,Pl.Ag n ds a l→(results fn a.tmps).run Tryz.prog w = .ok (.slice A k c) w:=fun a ha=>by
 have hl:=Cb.jZ (j:=0) hC rfl
 unfold results
 rw [hr]
 have e:a.tmps.getD t undef = .pointer (some ⟨N,0,none⟩):=by rw [Array.getD_eq_getD_getElem?,ha.look t _ hv];rfl
 simp only [Instr.loadAt,Instr.sureAddr,Sem.run_bind,Sem.run_pure,Result.andThen_ok] at hl
 simp only [List.mapM_toArray,List.mapM_cons,List.mapM_nil,e,asAddr,Sem.run_bind,Sem.run_pure,Result.andThen_ok]
 simp [hl,Sem.run_bind,Result.andThen]
theorem pE (w:World) (va vb:Value) (a b:Nat) (ha:Un w va a) (hb:Un w vb b) (hla:Sn a 90) (hlb:Sn b 90) :
  Calls Tryz.prog 14 #[va,vb] w fun e w'=>∃ z,e = .returned z∧Un w' z (Nat.gcd a b)∧Ext w w':=by
 obtain ⟨Aa,ca,rfl,-⟩:=Un.sh ha
 obtain ⟨Ab,cb,rfl,-⟩:=Un.sh hb
 refine Pl.Ck (n:=41) (vs:=[.slice Aa (limbs a).length ca,.slice Ab (limbs b).length cb]) Tryz.func14 rfl (by kernel_rfl) (by simp) ?_
 repeat refine Pl.ay ?_
 refine Pl.ak (by kernel_rfl) ?_
 refine fB rfl rfl rfl rfl (z:=.slice none 0 0) (by kernel_rfl) (fun _ _=>trivial) ?_
 intro Nr w1 hB1 hNr Tn
 replace Tn:Cb w1 Nr 22 [.slice none 0 0]:=Tn
 refine Pl.aj ?_
 repeat refine Pl.ay ?_
 refine Pl.ak (by kernel_rfl) ?_
 refine Pl.aA trivial rfl rfl rfl rfl rfl ?_
 refine Pl.aA trivial rfl rfl rfl rfl rfl ?_
 refine PN trivial rfl rfl rfl rfl rfl rfl ?_
 refine fB rfl rfl rfl rfl (z:=.agg #[.slice none 0 0,.slice none 0 0]) (by kernel_rfl) (fun _ _=>trivial) ?_
 intro Nl w2 hB2 hNl kl2
 replace kl2:Cb w2 Nl 91 [.slice none 0 0,.slice none 0 0]:=kl2
 refine iC (new:=[.slice Aa (limbs a).length ca,.slice Ab (limbs b).length cb]) kl2 rfl rfl rfl rfl rfl rfl (by kernel_rfl) rfl (by simp [Value.oneCell']) trivial ?_
 have kl3:=Cb.put kl2 [.slice Aa (limbs a).length ca,.slice Ab (limbs b).length cb]
 have x3:Xt [Nl] w2 (w2.setRow Nl ([.slice Aa (limbs a).length ca,.slice Ab (limbs b).length cb]:List Value).toArray):=Xt.put kl2 (ni _ _ _ _ _ _) (by simp) _
 have hrl:Nr≠Nl:=by have:=Tn.lt;omega
 have kr3:=x3.cb (Cb.ext Tn hB2) (by simpa using hrl)
 have hwl:w.heap.size≤Nl:=Nat.le_trans hB1.size hNl
 have bJ:=(hB1.below hB2).xt x3 (by simpa using hwl)
 generalize w2.setRow Nl ([.slice Aa (limbs a).length ca,.slice Ab (limbs b).length cb]:List Value).toArray=w3 at *
 refine Pl.aj ?_
 repeat refine Pl.ay ?_
 refine Pl.ak (by kernel_rfl) ?_
 refine Pl.aA trivial rfl rfl rfl rfl rfl ?_
 refine Pl.aA trivial rfl rfl rfl rfl rfl ?_
 refine Pl.az rfl rfl rfl rfl rfl (fun u X=>Pl.enters Tryz.func58 (by kernel_rfl) rfl u X) ?_
 refine Calls.mono (uh _ _ _ _ _ rfl rfl rfl rfl) ?_
 rintro e w4 ⟨Na,Nb,Ne,Ng,rfl,kna,knb,kne,XD,o1,o2,o3,o4,hB4⟩
 refine ⟨_,rfl,trivial,?_⟩
 refine Pl.aj ?_
 repeat refine Pl.ay ?_
 refine Pl.dM ?_
 repeat refine Pl.ay ?_
 refine Pl.KO (gf := 118) (lb:=[.pointer (some ⟨Nb,0,none⟩),.pointer (some ⟨Na,0,none⟩),.pointer (some ⟨Ne,0,none⟩),.pointer (some ⟨Ng,0,none⟩)]) rfl (fun u X=>Pl.enters Tryz.func118 (by kernel_rfl) rfl u X) ?_
 intro fn tmps rec hrec hAg
 obtain ⟨D,hD⟩:∃ D,w4.heap.size=D:=⟨_,rfl⟩
 rw [hD]
 have bX:=bJ.below hB4
 have Tp:w.heap.size≤D:=by rw [← hD];exact bX.size
 have lZ:Ext w4 ((w4.alloc (.deferred (some []))).alloc (.loop rec)):=((Ext.refl w4).alloc _).alloc _
 have hL5:Lq w D rec ((w4.alloc (.deferred (some []))).alloc (.loop rec)):=⟨by rw [← hD];have:=World.alloc_heap_new (w4.alloc (.deferred (some []))) (.loop rec);rwa [World.size_alloc] at this,by rw [← hD];exact (Below.heap_alloc _ _ _ (by simp)).trans (World.alloc_heap_new w4 _),bX.below lZ⟩
 have hs5:((w4.alloc (.deferred (some []))).alloc (.loop rec)).heap.size=D+2:=by rw [World.size_alloc,World.size_alloc,hD]
 generalize (w4.alloc (.deferred (some []))).alloc (.loop rec)=w5 at *
 have agX:Nr<w3.heap.size∧Nl<w3.heap.size:=⟨kr3.lt,kl3.lt⟩
 have hng:=XD.lt
 rw [hD] at hng
 have h34:=hB4.size
 rw [hD] at h34
 refine Calls.mono (ug w5 a b _ _ Na Nb Ne Ng 59 [] 60 [] (D+1) [Nr,Nl,D+1] (fun ql pl pr X=>Cb X Nr 22 [.slice none 0 0]∧(∃ vx vy,Cb X Nl 91 [vx,vy]∧Un X vx pr.1∧Un X vy pr.2)∧Lq w D rec X) (fun X=>(∃ A n c,Cb X Nr 22 [.slice A n c]∧Un X (.slice A n c) (Nat.gcd a b))∧Lq w D { rec with state:=.done,pending:=some .ret } X) (Cb.ext kna lZ) (Cb.ext knb lZ) (Cb.ext kne lZ) (Cb.ext XD lZ) ⟨o2,o3,o4⟩ ?Ci (Un.below ha hL5.ext) (Un.below hb hL5.ext) hla hlb ?h0 ?hI (fun u X=>Pl.enters Tryz.func59 (by kernel_rfl) rfl u X) (fun u X=>Pl.enters Tryz.func60 (by kernel_rfl) rfl u X) ?yf ?rM ?vC) ?_
 case Ci=>intro k hk;simp at hk;rcases hk with rfl | rfl | rfl<;>omega
 case h0=>exact ⟨Cb.ext (Cb.ext kr3 hB4) lZ,⟨_,_,Cb.ext (Cb.ext kl3 hB4) lZ,Un.below ha hL5.ext,Un.below hb hL5.ext⟩,hL5⟩
 case hI =>
  rintro ql pl pr X Y Cs ⟨kr,⟨vx,vy,kl,hx,hy⟩,hL⟩ hX hC
  have nb:∀ N,N<D+2→N≠Na→N≠Nb→N∉Cs:=fun N hN h1 h2 hc=>by rcases hC N hc with h | h | h<;>omega
  exact ⟨hX.cb kr (nb _ (by omega) (by omega) (by omega)),⟨vx,vy,hX.cb kl (nb _ (by omega) (by omega) (by omega)),Un.kp hx hX.kp,Un.kp hy hX.kp⟩,hL.xt hX fun k hk=>by rcases hC k hk with h | h | h<;>omega⟩
 case yf =>
  intro ql pl pr q v X hJ hpre hq hv
  refine (IW X v).mono fun e X' h=>?_
  obtain ⟨rfl,rfl⟩:=h
  exact ⟨rfl,hJ,Xc.refl _⟩
 case rM =>
  intro pl l pr f fs n X hJ hpre ht hn
  refine (IX X _ _).mono fun e X' h=>?_
  obtain ⟨rfl,rfl⟩:=h
  exact ⟨rfl,hJ,Xc.refl _⟩
 case vC =>
  rintro ql pr P Q vp vq X ⟨kr,⟨vx,vy,kl,hx,hy⟩,hL⟩ htold XH hsp hsq hp hq
  obtain ⟨Ap,cp,rfl,-⟩:=Un.sh hp
  obtain ⟨Aq,cq,rfl,-⟩:=Un.sh hq
  obtain ⟨Ax,cx,rfl,-⟩:=Un.sh hx
  obtain ⟨Ay,cy,rfl,-⟩:=Un.sh hy
  refine YW.of hrec hL.loop ?_
  refine Pl.Fy (Pl.Ag.round hAg (by decide) _) ?_
  repeat refine Pl.jh ?_
  refine Pl.iW (by kernel_rfl) ?_
  refine fB rfl rfl rfl rfl (z:=.agg #[.slice none 0 0,.slice none 0 0]) (by kernel_rfl) (fun _ _=>trivial) ?_
  intro Np X1 hX1 hNp M6
  replace M6:Cb X1 Np 91 [.slice none 0 0,.slice none 0 0]:=M6
  refine iC (new:=[.slice Ap (limbs P).length cp,.slice Aq (limbs Q).length cq]) M6 rfl rfl rfl rfl rfl rfl (by kernel_rfl) rfl (by simp [Value.oneCell']) trivial ?_
  have kp2:=Cb.put M6 [.slice Ap (limbs P).length cp,.slice Aq (limbs Q).length cq]
  have x2:Xt [Np] X (X1.setRow Np ([.slice Ap (limbs P).length cp,.slice Aq (limbs Q).length cq]:List Value).toArray):=(Xt.ext hX1).trans (Xt.put M6 (ni _ _ _ _ _ _) (by simp) _)
  generalize X1.setRow Np ([.slice Ap (limbs P).length cp,.slice Aq (limbs Q).length cq]:List Value).toArray=X2 at *
  refine Pl.aj ?_
  have hDX:=(Array.getElem?_eq_some_iff.1 hL.loop).1
  have hsz:D+2≤X.heap.size:=hDX
  have hwX:=hL.ext.size
  have hL2:=hL.xt x2 (by simp;omega)
  have kr2:=x2.cb kr (by simp;have:=kr.lt;omega)
  have kl2:=x2.cb kl (by simp;have:=kl.lt;omega)
  obtain ⟨hL3,x3⟩:=hL2.put Tp { rec with state:=.busy }
  have kr3:=x3.cb kr2 (by simp;omega)
  have kl3:=x3.cb kl2 (by simp;omega)
  have kp3:=x3.cb kp2 (by simp;omega)
  refine Pl.yI fun a2 ha2=>⟨_,_,ha2,run_beginRound hL2.loop (by rw [hrec]),?_⟩
  generalize X2.putObj (D+1) (.loop { rec with state:=.busy })=X3 at *
  repeat refine Pl.jh ?_
  refine Pl.Fz ?_
  repeat refine Pl.jh ?_
  refine Pl.iW (by kernel_rfl) ?_
  refine Pl.aH trivial rfl rfl rfl rfl rfl (Cb.load kp3 _ _ rfl rfl (by kernel_rfl)) ?_
  refine iC (new:=[.slice Ap (limbs P).length cp,.slice Aq (limbs Q).length cq]) kl3 rfl rfl rfl rfl rfl rfl (by kernel_rfl) rfl (by simp [Value.oneCell']) trivial ?_
  have kl4:=Cb.put kl3 [.slice Ap (limbs P).length cp,.slice Aq (limbs Q).length cq]
  have x4:Xt [Nl] X3 (X3.setRow Nl ([.slice Ap (limbs P).length cp,.slice Aq (limbs Q).length cq]:List Value).toArray):=Xt.put kl3 (ni _ _ _ _ _ _) (by simp) _
  have kr4:=x4.cb kr3 (by simpa using hrl)
  have kp4:=x4.cb kp3 (by simp;have:=kl.lt;omega)
  have hL4:=hL3.xt x4 (by simp;omega)
  generalize X3.setRow Nl ([.slice Ap (limbs P).length cp,.slice Aq (limbs Q).length cq]:List Value).toArray=X4 at *
  refine Pl.aj ?_
  have hk4:=x2.kp.trans (x3.kp.trans x4.kp)
  have hp4:=Un.kp hp hk4
  have hq4:=Un.kp hq hk4
  repeat refine Pl.jh ?_
  refine Pl.iW (by kernel_rfl) ?_
  refine bL trivial rfl rfl rfl rfl rfl (zV _) ?_
  refine Pl.aH trivial rfl rfl rfl rfl rfl (Cb.jZ (j:=0) kp4 rfl) ?_
  refine Pl.az rfl rfl rfl rfl rfl (fun u X=>Pl.enters Tryz.func61 (by kernel_rfl) rfl u X) ?_
  refine Calls.mono (Tq _ _ P hp4 _ _ rfl rfl) ?_
  rintro e X5 ⟨rfl,dJ⟩
  refine ⟨_,rfl,trivial,?_⟩
  refine Pl.aA trivial rfl rfl rfl rfl rfl ?_
  refine Pl.aL trivial rfl rfl rfl rfl rfl rfl ?_
  refine Pl.aL trivial rfl rfl rfl rfl rfl rfl ?_
  refine Pl.aF trivial rfl rfl rfl rfl rfl ?_
  refine Pl.aF trivial rfl rfl rfl rfl rfl ?_
  refine Pl.aj ?_
  have kp5:=Cb.ext kp4 dJ
  repeat refine Pl.jh ?_
  refine Pl.iW (by kernel_rfl) ?_
  refine bL trivial rfl rfl rfl rfl rfl (XG _) ?_
  refine Pl.aH trivial rfl rfl rfl rfl rfl (Cb.jZ (j:=1) kp5 rfl) ?_
  refine Pl.az rfl rfl rfl rfl rfl (fun u X=>Pl.enters Tryz.func61 (by kernel_rfl) rfl u X) ?_
  refine Calls.mono (Tq _ _ Q (Un.below hq4 dJ) _ _ rfl rfl) ?_
  rintro e X6 ⟨rfl,dV⟩
  refine ⟨_,rfl,trivial,?_⟩
  refine Pl.aA trivial rfl rfl rfl rfl rfl ?_
  refine Pl.aL trivial rfl rfl rfl rfl rfl rfl ?_
  refine Pl.aL trivial rfl rfl rfl rfl rfl rfl ?_
  refine Pl.aF trivial rfl rfl rfl rfl rfl ?_
  refine Pl.aF trivial rfl rfl rfl rfl rfl ?_
  refine Pl.aj ?_
  have Vo:=dJ.below dV
  have kr6:=Cb.ext kr4 Vo
  have kl6:=Cb.ext kl4 Vo
  have hL6:=hL4.xt (Xt.ext (Bs:=[]) Vo) (by simp)
  have hp6:=Un.below hp4 Vo
  have hq6:=Un.below hq4 Vo
  have x46:Xc w5.heap.size [Nr,Nl,D+1,Np] X X6:=Xc.xt (((x2.mono (by simp)).trans (x3.mono (by simp))).trans ((x4.mono (by simp)).trans (Xt.ext Vo)))
  have ay6:Np≠Nr∧Np≠Nl∧Np≠D+1∧Np≠D:=by have:=kr.lt;have:=kl.lt;omega
  by_cases hbP:P<18446744073709551616
  · have e1:xS P=true:=by simp [xS,hbP]
    rw [e1]
    by_cases hbQ:Q<18446744073709551616
    · have e2:xS Q=true:=by simp [xS,hbQ]
      rw [e2]
      repeat refine Pl.jh ?_
      refine Pl.iW (by kernel_rfl) ?_
      refine Pl.aA trivial rfl rfl rfl rfl rfl ?_
      refine Pl.aA trivial rfl rfl rfl rfl rfl ?_
      refine Pl.aA trivial rfl rfl rfl rfl rfl ?_
      refine Pl.pq trivial rfl rfl rfl rfl rfl rfl ?_
      refine Pl.aj ?_
      repeat refine Pl.jh ?_
      refine Pl.ade rfl ?_
      have e3:En P=P:=by simp [En,hbP]
      have e4:En Q=Q:=by simp [En,hbQ]
      rw [e3,e4]
      have hgl:Nat.gcd P Q<18446744073709551616:=(Nat.eq_zero_or_pos P).elim (fun h=>by rw [h,Nat.gcd_zero_left];exact hbQ) (fun h=>Nat.lt_of_le_of_lt (Nat.gcd_le_left Q h) hbP)
      repeat refine Pl.jh ?_
      refine Pl.iW (by kernel_rfl) ?_
      refine Pl.aA trivial rfl rfl rfl rfl rfl ?_
      refine Pl.aA trivial rfl rfl rfl rfl rfl ?_
      refine Pl.az rfl rfl rfl rfl rfl (fun u X=>Pl.enters Tryz.func63 (by kernel_rfl) rfl u X) ?_
      refine Calls.mono (ag0 _ P Q hbP hbQ) ?_
      rintro e X7 ⟨rfl,dP⟩
      refine ⟨_,rfl,trivial,?_⟩
      refine Pl.az rfl rfl rfl rfl rfl (fun u X=>Pl.enters Tryz.func62 (by kernel_rfl) rfl u X) ?_
      refine Calls.mono (of_B _ ((Nat.gcd P Q:Nat):Int) (by omega) (by omega) (Nat.gcd P Q) (by omega)) ?_
      rintro e X8 ⟨z,rfl,hz,dU⟩
      obtain ⟨Az,cz,rfl,-⟩:=Un.sh hz
      have kr8:=Cb.ext kr6 (dP.below dU)
      have hL8:=hL6.xt (Xt.ext (Bs:=[]) (dP.below dU)) (by simp)
      refine ⟨_,rfl,trivial,?_⟩
      refine Pl.aW rfl rfl rfl rfl rfl rfl (Cb.dN kr8 Az (limbs (Nat.gcd P Q)).length cz) trivial ?_
      have x9:=Xt.set (Bs:=[Nr]) kr8 (bP _ _ _) (by simp) 0 (.slice Az (limbs (Nat.gcd P Q)).length cz)
      have kr9:=Cb.set kr8 0 (.slice Az (limbs (Nat.gcd P Q)).length cz)
      have hL9:=hL8.xt x9 (by simp;omega)
      generalize X8.setCell ⟨Nr,0,none⟩ (.slice Az (limbs (Nat.gcd P Q)).length cz)=X9 at *
      refine Pl.aj ?_
      repeat refine Pl.jh ?_
      refine Pl.ag1 fun a3 ha3=>?_
      obtain ⟨v10,X10,arK,rfl,KP,vD⟩:=Lq.alB (P:=Tryz.prog) hL9 Tp .ret
      refine ⟨_,_,arK,.inr ⟨rfl,?_⟩⟩
      rw [XH] at hz kr9
      exact ⟨⟨_,_,_,vD.cb kr9 (by simp;omega),Un.kp (Un.kp hz x9.kp) vD.kp⟩,KP⟩
    · have e2:xS Q=false:=by simp [xS,hbQ]
      rw [e2]
      repeat refine Pl.jh ?_
      refine Pl.iW (by kernel_rfl) ?_
      refine Pl.aA trivial rfl rfl rfl rfl rfl ?_
      refine Pl.aA trivial rfl rfl rfl rfl rfl ?_
      refine Pl.aA trivial rfl rfl rfl rfl rfl ?_
      refine Pl.pq trivial rfl rfl rfl rfl rfl rfl ?_
      refine Pl.aj ?_
      repeat refine Pl.jh ?_
      refine Pl.M7 rfl ?_
      repeat refine Pl.jh ?_
      refine Pl.Tt ?_
      refine Pl.qV ?_
      refine Pl.yI fun a3 ha3=>?_
      obtain ⟨v7,X7,hr7,rfl,hL7,x7⟩:=Lq.fin (P:=Tryz.prog) hL6 Tp (by rw [hrec]) (by rw [hrec])
      refine ⟨_,_,hr7,.inl ⟨rfl,?_⟩⟩
      exact ⟨⟨x7.cb kr6 (by simp;omega),⟨_,_,x7.cb kl6 (by simp;omega),Un.kp hp6 x7.kp,Un.kp hq6 x7.kp⟩,hL7⟩,(x46.trans (Xc.xt (x7.mono (by simp)))).drop (by simp;omega)⟩
  · have e1:xS P=false:=by simp [xS,hbP]
    rw [e1]
    repeat refine Pl.jh ?_
    refine Pl.iW (by kernel_rfl) ?_
    refine Pl.aA trivial rfl rfl rfl rfl rfl ?_
    refine Pl.aA trivial rfl rfl rfl rfl rfl ?_
    refine Pl.kW rfl rfl rfl ?_
    refine Pl.pq trivial rfl rfl rfl rfl rfl rfl ?_
    refine Pl.aj ?_
    repeat refine Pl.jh ?_
    refine Pl.M7 rfl ?_
    repeat refine Pl.jh ?_
    refine Pl.Tt ?_
    refine Pl.qV ?_
    refine Pl.yI fun a3 ha3=>?_
    obtain ⟨v7,X7,hr7,rfl,hL7,x7⟩:=Lq.fin (P:=Tryz.prog) hL6 Tp (by rw [hrec]) (by rw [hrec])
    refine ⟨_,_,hr7,.inl ⟨rfl,?_⟩⟩
    exact ⟨⟨x7.cb kr6 (by simp;omega),⟨_,_,x7.cb kl6 (by simp;omega),Un.kp hp6 x7.kp,Un.kp hq6 x7.kp⟩,hL7⟩,(x46.trans (Xc.xt (x7.mono (by simp)))).drop (by simp;omega)⟩
 rintro e w6 ⟨rfl,(⟨P,⟨kr,⟨vx,vy,kl,hx,hy⟩,hL⟩,hPg⟩ | ⟨⟨A,n,c,kr,hz⟩,hL⟩)⟩
 · refine ⟨_,rec,rfl,hL.loop,by rw [hrec];simp,?_⟩
   rw [hrec]
   dsimp only
   obtain ⟨hL7,x7⟩:=hL.put Tp { rec with state:=.exhausted }
   rw [hrec] at hL7 x7
   generalize w6.putObj (D+1) _=w7 at *
   have kl7:=x7.cb kl (by simp;omega)
   have kr7:=x7.cb kr (by simp;omega)
   have hx7:=Un.kp hx x7.kp
   obtain ⟨Ax,cx,rfl,-⟩:=Un.sh hx
   refine Pl.dG ?_
   repeat refine Pl.ay ?_
   refine Pl.ak (by kernel_rfl) ?_
   refine bL trivial rfl rfl rfl rfl rfl (zV _) ?_
   refine Pl.aH trivial rfl rfl rfl rfl rfl (Cb.jZ (j:=0) kl7 rfl) ?_
   refine Pl.aW rfl rfl rfl rfl rfl rfl (Cb.dN kr7 Ax (limbs P).length cx) trivial ?_
   have x8:=Xt.set (Bs:=[Nr]) kr7 (bP _ _ _) (by simp) 0 (.slice Ax (limbs P).length cx)
   have kr8:=Cb.set kr7 0 (.slice Ax (limbs P).length cx)
   have hL8:=hL7.xt x8 (by simp;omega)
   have hx8:=Un.kp hx7 x8.kp
   generalize w7.setCell ⟨Nr,0,none⟩ (.slice Ax (limbs P).length cx)=w8 at *
   refine Pl.aj ?_
   have x9:=Xt.putObj hL8.dfr rfl (.deferred none)
   exact Pl.vE hL8.dfr (yg rfl rfl (x9.cb kr8 (by simp;omega))) ⟨_,rfl,by rw [← hPg];exact Un.kp hx8 x9.kp,hL8.ext.xt x9 (by simp;omega)⟩
 · refine ⟨_,_,rfl,hL.loop,by simp,?_⟩
   obtain ⟨hL7,x7⟩:=hL.put Tp { { rec with state:=.done,pending:=some .ret } with state:=.exhausted }
   generalize w6.putObj (D+1) _=w7 at *
   have kr7:=x7.cb kr (by simp;omega)
   have Vp:=Un.kp hz x7.kp
   have x9:=Xt.putObj hL7.dfr rfl (.deferred none)
   dsimp only
   exact Pl.IY hL7.dfr (yg rfl rfl (x9.cb kr7 (by simp;omega))) ⟨_,rfl,Un.kp Vp x9.kp,hL7.ext.xt x9 (by simp;omega)⟩
end Go.Proofs.YtfhcmggpojhegaaGreatDoor
/- Powers modulo a natural. -/
namespace Go.Proofs.YtfhcmggpojhegaaGreatDoor
open Go.RowKit
set_option linter.all false
set_option maxRecDepth 100000
set_option maxHeartbeats 8000000
def M8 (w:World) (a m i:Nat) (cs:List Value):Prop:=cs.length=16∧(∀ c∈cs,∃ A n k,c = .slice A n k)∧∀ j,j<i→∃ v,cs[j]?=some v∧Un w v (a^j%m)
theorem M8.kp {w w':World} {a m i:Nat} {cs:List Value} (h:M8 w a m i cs) (k:Kp w w'):M8 w' a m i cs:=⟨h.1,h.2.1,fun j hj=>by obtain ⟨v,h1,h2⟩:=h.2.2 j hj;exact ⟨v,h1,Un.kp h2 k⟩⟩
theorem M8.at {w:World} {a m i:Nat} {cs:List Value} (h:M8 w a m i cs) {j:Nat} (hj:j<16):∃ A n k,cs[j]?=some (.slice A n k):=by
 have hl:j<cs.length:=by rw [h.1];exact hj
 obtain ⟨A,n,k,e⟩:=h.2.1 cs[j] (List.getElem_mem hl)
 exact ⟨A,n,k,by rw [List.getElem?_eq_getElem hl,e]⟩
theorem M8.set {w:World} {a m i:Nat} {cs:List Value} (h:M8 w a m i cs) (hi:i<16) {A:Option Addr} {n k:Nat} (hv:Un w (.slice A n k) (a^i%m)):M8 w a m (i+1) (cs.set i (.slice A n k)):=by
 refine ⟨by rw [List.length_set];exact h.1,fun c hc=>?_,fun j hj=>?_⟩
 · rcases List.mem_or_eq_of_mem_set hc with h1 | h1
   · exact h.2.1 c h1
   · exact ⟨_,_,_,h1⟩
 · rcases Nat.lt_succ_iff_lt_or_eq.1 hj with h1 | h1
   · obtain ⟨v,e,hv⟩:=h.2.2 j h1
     exact ⟨v,by rw [List.getElem?_set_ne (by omega)];exact e,hv⟩
   · subst h1
     exact ⟨_,by rw [List.getElem?_set_self (by rw [h.1];exact hi)],hv⟩
section
variable {x y:Operand}
end
end Go.Proofs.YtfhcmggpojhegaaGreatDoor
/- Matrices of two rows. -/
namespace Go.Proofs.YtfhcmggpojhegaaGreatDoor
open Go.RowKit
set_option linter.all false
set_option maxRecDepth 100000
set_option maxHeartbeats 8000000
section
variable {L:List Oper} {S:World→Prop} {K:List (Nat × Value)→World→Prop} {k:Bool} {i m d:Nat} {o:Oper} {x y:Operand} {r:List (Bool × Nat × Nat)} {l:List (Nat × Value)} {w:World}
end
def Gd (w:World) (K:Nat):List Value→Prop
 | []=>True
 | .bool b::.slice A n c::l=>(∃ z,Zn w (.agg #[.bool b,.slice A n c]) z∧Sz z K)∧Gd w K l
 | _=>False
theorem Zn.nil (w:World):Zn w (.agg #[.bool false,.slice none 0 0]) 0:=Zn.zero _ _ _
theorem arM (b:Bool):gF (.bool b):=fun k e=>by cases e
theorem yJ (A:Option Addr) (n c:Nat):gF (.slice A n c):=fun k e=>by cases e
theorem jq {v:Value} {l:List Value} (h:gF v) (h2:∀ c∈l,gF c):∀ c∈v::l,gF c:=fun c hc=>by
 rcases List.mem_cons.1 hc with rfl | hc
 · exact h
 · exact h2 c hc
theorem aK:∀ c∈([]:List Value),gF c:=fun c hc=>by cases hc
theorem aD {b:Bool} {A:Option Addr} {n c:Nat} {l:List Value} (h:∀ c∈l,gF c):∀ v∈Value.bool b::.slice A n c::l,gF v:=jq (arM b) (jq (yJ A n c) h)
theorem qW (w:World)  :
  Calls Tryz.prog 132 #[] w fun e w'=>∃ p1 A1 n1 c1,e = .returned (.agg #[.bool p1,.slice A1 n1 c1,.bool false,.slice none 0 0,.bool false,.slice none 0 0,.bool p1,.slice A1 n1 c1])∧Zn w' (.agg #[.bool p1,.slice A1 n1 c1]) 1∧Ext w w':=by
 refine Pl.aZ (n:=10) (vs:=[]) Tryz.func132 rfl (by kernel_rfl) (by simp) ?_
 repeat refine Pl.ay ?_
 refine Pl.ak (by kernel_rfl) ?_
 refine fB rfl rfl rfl rfl (z:=.agg ([.bool false,.slice none 0 0,.bool false,.slice none 0 0,.bool false,.slice none 0 0,.bool false,.slice none 0 0]:List Value).toArray) (by kernel_rfl) (fun _ _=>trivial) ?_
 intro N0 w1 hB1 hN0 k0
 refine Pl.aj ?_
 replace k0:Cb w1 N0 110 [.bool false,.slice none 0 0,.bool false,.slice none 0 0,.bool false,.slice none 0 0,.bool false,.slice none 0 0]:=k0
 repeat refine Pl.ay ?_
 refine Pl.ak (by kernel_rfl) ?_
 refine Pl.az rfl rfl rfl rfl rfl (fun u X=>Pl.enters Tryz.func89 (by kernel_rfl) rfl u X) ?_
 refine Calls.mono (zof _ 1 (by decide) (by decide)) ?_
 rintro e w2 ⟨v1,rfl,hz1,hB2⟩
 refine ⟨_,rfl,trivial,?_⟩
 obtain ⟨p1,A1,n1,c1,rfl⟩:=Zn.sh hz1
 refine fB rfl rfl rfl rfl (z:=.agg #[.bool false,.slice none 0 0]) (by kernel_rfl) (fun _ _=>trivial) ?_
 intro N1 w3 hB3 hN1 k1
 replace k1:Cb w3 N1 48 [.bool false,.slice none 0 0]:=k1
 refine iC (new:=[.bool p1,.slice A1 n1 c1]) k1 rfl rfl rfl rfl rfl rfl (by kernel_rfl) rfl (by simp [Value.oneCell']) trivial ?_
 have k1b:=Cb.put k1 [.bool p1,.slice A1 n1 c1]
 have x4:Xt [N1] w3 (w3.setRow N1 ([.bool p1,.slice A1 n1 c1]:List Value).toArray):=Xt.put k1 (aD aK) (by simp) _
 have n01:N0≠N1:=by have:=(Cb.ext k0 hB2).lt;omega
 have k0b:=x4.cb (Cb.ext k0 (hB2.below hB3)) (by simpa using n01)
 have hwn:w.heap.size≤N1:=Nat.le_trans (hB1.below hB2).size hN1
 have bX:=(hB1.below (hB2.below hB3)).xt x4 (by simpa using hwn)
 have hz4:=Zn.kp (Zn.below hz1 hB3) x4.kp
 generalize w3.setRow N1 ([.bool p1,.slice A1 n1 c1]:List Value).toArray=w4 at *
 refine Pl.aj ?_
 repeat refine Pl.ay ?_
 refine Pl.ak (by kernel_rfl) ?_
 refine Pl.aH trivial rfl rfl rfl rfl rfl (Cb.load k1b _ _ rfl rfl (by kernel_rfl)) ?_
 refine Pl.dB (v:=.agg ([.bool false,.slice none 0 0]:List Value).toArray) trivial rfl rfl rfl (fun ρ hρ X _=>by simp [go_sem]) ?_
 refine Pl.dB (v:=.agg ([.bool p1,.slice A1 n1 c1,.bool false,.slice none 0 0]:List Value).toArray) trivial rfl rfl rfl (fun ρ hρ X _=>by have e3:=hρ.tmp 3 _ rfl;have e4:=hρ.tmp 4 _ rfl;simp [go_sem,e3,e4]) ?_
 refine Pl.dB (v:=.agg ([.bool false,.slice none 0 0]:List Value).toArray) trivial rfl rfl rfl (fun ρ hρ X _=>by simp [go_sem]) ?_
 refine Pl.aH trivial rfl rfl rfl rfl rfl (Cb.load k1b _ _ rfl rfl (by kernel_rfl)) ?_
 refine Pl.dB (v:=.agg ([.bool false,.slice none 0 0,.bool p1,.slice A1 n1 c1]:List Value).toArray) trivial rfl rfl rfl (fun ρ hρ X _=>by have e6:=hρ.tmp 6 _ rfl;have e7:=hρ.tmp 7 _ rfl;simp [go_sem,e6,e7]) ?_
 refine Pl.dB (v:=.agg ([.bool p1,.slice A1 n1 c1,.bool false,.slice none 0 0,.bool false,.slice none 0 0,.bool p1,.slice A1 n1 c1]:List Value).toArray) trivial rfl rfl rfl (fun ρ hρ X _=>by have e5:=hρ.tmp 5 _ rfl;have e8:=hρ.tmp 8 _ rfl;simp [go_sem,e5,e8]) ?_
 refine iC (new:=[.bool p1,.slice A1 n1 c1,.bool false,.slice none 0 0,.bool false,.slice none 0 0,.bool p1,.slice A1 n1 c1]) k0b rfl rfl rfl rfl rfl rfl (by kernel_rfl) rfl (by simp [Value.oneCell']) trivial ?_
 have k0c:=Cb.put k0b [.bool p1,.slice A1 n1 c1,.bool false,.slice none 0 0,.bool false,.slice none 0 0,.bool p1,.slice A1 n1 c1]
 have x5:Xt [N0] w4 (w4.setRow N0 ([.bool p1,.slice A1 n1 c1,.bool false,.slice none 0 0,.bool false,.slice none 0 0,.bool p1,.slice A1 n1 c1]:List Value).toArray):=Xt.put k0b (aD (aD (aD (aD aK)))) (by simp) _
 generalize w4.setRow N0 ([.bool p1,.slice A1 n1 c1,.bool false,.slice none 0 0,.bool false,.slice none 0 0,.bool p1,.slice A1 n1 c1]:List Value).toArray=w5 at *
 refine Pl.aj ?_
 exact kE rfl rfl k0c rfl rfl (by kernel_rfl) ⟨p1,A1,n1,c1,rfl,Zn.kp hz4 x5.kp,bX.xt x5 (by simp;omega)⟩
end Go.Proofs.YtfhcmggpojhegaaGreatDoor
/- The state that comes of a further matrix. -/
namespace Go.Proofs.YtfhcmggpojhegaaGreatDoor
open Go.RowKit
set_option linter.all false
set_option maxRecDepth 100000
set_option maxHeartbeats 8000000
theorem JA (N:Nat) (X:World):(Instr.fieldAt 112 (.pointer (some ⟨N,0,none⟩)) 0).run Tryz.prog X = .ok (.pointer (some ⟨N,0,none⟩)) X:=by go_simp
theorem xh (N:Nat) (X:World):(Instr.fieldAt 112 (.pointer (some ⟨N,0,none⟩)) 1).run Tryz.prog X = .ok (.pointer (some ⟨N,1,none⟩)) X:=by go_simp
section
variable {L:List Oper} {K:List (Nat × Value)→World→Prop} {i m:Nat} {o:Oper} {x y:Operand} {r:List (Bool × Nat × Nat)} {l:List (Nat × Value)} {w:World}
end
theorem Ib.xt {w w':World} {N:Nat} {b:Bool} {m:Value} {Bs:List Nat} (h:Ib w N b m) (hX:Xt Bs w w') (hn:N∉Bs):Ib w' N b m:=Ib.kpB h (hX.block N h.1 hn) hX.kp.1
theorem Gd.kp {w w':World} {K:Nat} (hk:Kp w w'):∀ {cs:List Value},Gd w K cs→Gd w' K cs
 | [],_=>trivial
 | .bool b::.slice A k c::l,h=>⟨h.1.elim fun z hz=>⟨z,Zn.kp hz.1 hk,hz.2⟩,Gd.kp hk h.2⟩
namespace Tu
set_option linter.all false
set_option maxRecDepth 100000
set_option maxHeartbeats 8000000
end Tu
open Tu
end Go.Proofs.YtfhcmggpojhegaaGreatDoor
/- The greatest common divisor by halves, and by either way. -/
namespace Go.Proofs.YtfhcmggpojhegaaGreatDoor
open Go.RowKit
set_option linter.all false
set_option maxRecDepth 100000
set_option maxHeartbeats 8000000
theorem adf {P Q:Nat} (h:¬ P<Q):¬ dY P Q<0:=by
 have h2:=zQ (P:Int) (Q:Int)
 have h3:=Int.sign_nonneg_iff.2 (show (0:Int)≤(P:Int)-(Q:Int) by omega)
 omega
theorem FB (w:World) (va vb:Value) (a b:Nat) (ha:Un w va a) (hb:Un w vb b) (hla:Sn a 90) (hlb:Sn b 90) (hab:¬ a<b) :
  Calls Tryz.prog 76 #[va,vb] w fun e w'=>∃ Ax nx cx Ay ny cy cs,e = .returned (.agg (.slice Ax nx cx::.slice Ay ny cy::cs).toArray)∧Un w' (.slice Ax nx cx) a∧Un w' (.slice Ay ny cy) b∧cs.length=8∧(∀ c∈cs,gF c)∧(∀ c∈cs,c.oneCell'=true)∧Ext w w':=by
 obtain ⟨Aa,ca,rfl,-⟩:=Un.sh ha
 obtain ⟨Ab,cb,rfl,-⟩:=Un.sh hb
 refine Pl.aZ (n:=44) (vs:=[.slice Aa (limbs a).length ca,.slice Ab (limbs b).length cb]) Tryz.func76 rfl (by kernel_rfl) (by simp) ?_
 repeat refine Pl.ay ?_
 refine Pl.ak (by kernel_rfl) ?_
 refine fB rfl rfl rfl rfl (z:=.agg ([.slice none 0 0,.slice none 0 0,.bool false,.slice none 0 0,.bool false,.slice none 0 0,.bool false,.slice none 0 0,.bool false,.slice none 0 0]:List Value).toArray) (by kernel_rfl) (fun _ _=>trivial) ?_
 intro Nr w1 hB1 hNr kr
 replace kr:Cb w1 Nr 112 [.slice none 0 0,.slice none 0 0,.bool false,.slice none 0 0,.bool false,.slice none 0 0,.bool false,.slice none 0 0,.bool false,.slice none 0 0]:=kr
 refine Pl.aj ?_
 repeat refine Pl.ay ?_
 refine Pl.ak (by kernel_rfl) ?_
 refine Pl.aA trivial rfl rfl rfl rfl rfl ?_
 refine Pl.aA trivial rfl rfl rfl rfl rfl ?_
 refine Pl.az rfl rfl rfl rfl rfl (fun u X=>Pl.enters Tryz.func132 (by kernel_rfl) rfl u X) ?_
 refine Calls.mono (qW _) ?_
 rintro e w2 ⟨p1,A1,n1,c1,rfl,hz1,hB2⟩
 refine ⟨_,rfl,trivial,?_⟩
 refine Pl.dB (v:=.agg ([.slice Aa (limbs a).length ca,.slice Ab (limbs b).length cb,.bool p1,.slice A1 n1 c1,.bool false,.slice none 0 0,.bool false,.slice none 0 0,.bool p1,.slice A1 n1 c1]:List Value).toArray) trivial rfl rfl rfl (fun ρ hρ X _=>by have e7:=hρ.tmp 7 _ rfl;have e8:=hρ.tmp 8 _ rfl;have e9:=hρ.tmp 9 _ rfl;simp [go_sem,e7,e8,e9]) ?_
 refine fB rfl rfl rfl rfl (z:=.agg ([.slice none 0 0,.slice none 0 0,.bool false,.slice none 0 0,.bool false,.slice none 0 0,.bool false,.slice none 0 0,.bool false,.slice none 0 0]:List Value).toArray) (by kernel_rfl) (fun _ _=>trivial) ?_
 intro Ns w3 hB3 hNs ks
 replace ks:Cb w3 Ns 112 [.slice none 0 0,.slice none 0 0,.bool false,.slice none 0 0,.bool false,.slice none 0 0,.bool false,.slice none 0 0,.bool false,.slice none 0 0]:=ks
 refine iC (new:=[.slice Aa (limbs a).length ca,.slice Ab (limbs b).length cb,.bool p1,.slice A1 n1 c1,.bool false,.slice none 0 0,.bool false,.slice none 0 0,.bool p1,.slice A1 n1 c1]) ks rfl rfl rfl rfl rfl rfl (by kernel_rfl) rfl (by simp [Value.oneCell']) trivial ?_
 have x4:Xt [Ns] w3 (w3.setRow Ns ([.slice Aa (limbs a).length ca,.slice Ab (limbs b).length cb,.bool p1,.slice A1 n1 c1,.bool false,.slice none 0 0,.bool false,.slice none 0 0,.bool p1,.slice A1 n1 c1]:List Value).toArray):=Xt.put ks (jq (yJ _ _ _) (jq (yJ _ _ _) (aD (aD (aD (aD aK)))))) (by simp) _
 have hrs:Nr≠Ns:=by have:=(Cb.ext kr hB2).lt;omega
 replace ks:=Cb.put ks [.slice Aa (limbs a).length ca,.slice Ab (limbs b).length cb,.bool p1,.slice A1 n1 c1,.bool false,.slice none 0 0,.bool false,.slice none 0 0,.bool p1,.slice A1 n1 c1]
 replace kr:=x4.cb (Cb.ext kr (hB2.below hB3)) (by simpa using hrs)
 have hws:w.heap.size≤Ns:=Nat.le_trans (hB1.below hB2).size hNs
 have hE:=(hB1.below (hB2.below hB3)).xt x4 (by simpa using hws)
 replace hz1:=Zn.kp (Zn.below hz1 hB3) x4.kp
 generalize w3.setRow Ns ([.slice Aa (limbs a).length ca,.slice Ab (limbs b).length cb,.bool p1,.slice A1 n1 c1,.bool false,.slice none 0 0,.bool false,.slice none 0 0,.bool p1,.slice A1 n1 c1]:List Value).toArray=w4 at *
 refine Pl.aj ?_
 repeat refine Pl.ay ?_
 refine Pl.ak (by kernel_rfl) ?_
 refine Pl.aA trivial rfl rfl rfl rfl rfl ?_
 refine Pl.aA trivial rfl rfl rfl rfl rfl ?_
 refine Pl.az rfl rfl rfl rfl rfl (fun u X=>Pl.enters Tryz.func31 (by kernel_rfl) rfl u X) ?_
 refine Calls.mono (pU _ _ _ a b (Un.below ha hE) (Un.below hb hE) _ rfl) ?_
 rintro e w5 ⟨rfl,dJ⟩
 refine ⟨_,rfl,trivial,?_⟩
 refine Pl.aN (v:=.bool false) trivial rfl rfl rfl rfl rfl rfl (fun X=>jc (decide_eq_false (adf hab)) X) ?_
 refine Pl.aj ?_
 replace ks:=Cb.ext ks dJ
 replace kr:=Cb.ext kr dJ
 replace hE:=hE.below dJ
 replace hz1:=Zn.below hz1 dJ
 repeat refine Pl.ay ?_
 repeat refine Pl.ay ?_
 refine Pl.bn rfl ?_
 repeat refine Pl.ay ?_
 refine Pl.bM ?_
 repeat refine Pl.ay ?_
 repeat refine Pl.ay ?_
 refine Pl.dM ?_
 refine Pl.sH 0 ?_
 refine Pl.sI ?_
 repeat refine Pl.ay ?_
 refine Pl.ak (by kernel_rfl) ?_
 refine bL trivial rfl rfl rfl rfl rfl (xh _) ?_
 refine Pl.aH trivial rfl rfl rfl rfl rfl (Cb.jZ (j:=1) ks rfl) ?_
 refine eT trivial rfl rfl rfl rfl rfl ?_
 refine Pl.aN (v:=.bool false) trivial rfl rfl rfl rfl rfl rfl (fun X=>zR (by unfold Sn at hla hlb;rw [decide_eq_false_iff_not];omega) X) ?_
 refine Pl.aj ?_
 repeat refine Pl.ay ?_
 refine Pl.bn rfl ?_
 repeat refine Pl.ay ?_
 refine Pl.lD ?_
 repeat refine Pl.ay ?_
 refine Pl.ak (by kernel_rfl) ?_
 refine Pl.aH trivial rfl rfl rfl rfl rfl (Cb.load ks _ _ rfl rfl (by kernel_rfl)) ?_
 refine iC (new:=[.slice Aa (limbs a).length ca,.slice Ab (limbs b).length cb,.bool p1,.slice A1 n1 c1,.bool false,.slice none 0 0,.bool false,.slice none 0 0,.bool p1,.slice A1 n1 c1]) kr rfl rfl rfl rfl rfl rfl (by kernel_rfl) rfl (by simp [Value.oneCell']) trivial ?_
 have xf:Xt [Nr] w5 (w5.setRow Nr ([.slice Aa (limbs a).length ca,.slice Ab (limbs b).length cb,.bool p1,.slice A1 n1 c1,.bool false,.slice none 0 0,.bool false,.slice none 0 0,.bool p1,.slice A1 n1 c1]:List Value).toArray):=Xt.put kr (jq (yJ _ _ _) (jq (yJ _ _ _) (aD (aD (aD (aD aK)))))) (by simp) _
 replace kr:=Cb.put kr ([.slice Aa (limbs a).length ca,.slice Ab (limbs b).length cb,.bool p1,.slice A1 n1 c1,.bool false,.slice none 0 0,.bool false,.slice none 0 0,.bool p1,.slice A1 n1 c1])
 generalize w5.setRow Nr ([.slice Aa (limbs a).length ca,.slice Ab (limbs b).length cb,.bool p1,.slice A1 n1 c1,.bool false,.slice none 0 0,.bool false,.slice none 0 0,.bool p1,.slice A1 n1 c1]:List Value).toArray=wf at *
 refine Pl.aj ?_
 have hwr:w.heap.size≤Nr:=hNr
 exact kE rfl rfl kr rfl rfl (by kernel_rfl) ⟨_,_,_,_,_,_,_,rfl,Un.kp (Un.below ha hE) xf.kp,Un.kp (Un.below hb hE) xf.kp,rfl,(aD (aD (aD (aD aK)))),by simp [Value.oneCell'],hE.xt xf (by simp;omega)⟩
theorem Tv (w:World) (va vb:Value) (a b:Nat) (hby:Calls Tryz.prog 76 #[va,vb] w fun e w'=>∃ Ax nx cx Ay ny cy cs P Q,e = .returned (.agg (.slice Ax nx cx::.slice Ay ny cy::cs).toArray)∧Un w' (.slice Ax nx cx) P∧Un w' (.slice Ay ny cy) Q∧Sn P 90∧Sn Q 90∧Nat.gcd P Q=Nat.gcd a b∧cs.length=8∧(∀ c∈cs,gF c)∧(∀ c∈cs,c.oneCell'=true)∧Ext w w') :
  Calls Tryz.prog 23 #[va,vb] w fun e w'=>∃ z,e = .returned z∧Un w' z (Nat.gcd a b)∧Ext w w':=by
 refine Pl.aZ (n:=14) (vs:=[va,vb]) Tryz.func23 rfl (by kernel_rfl) (by simp) ?_
 repeat refine Pl.ay ?_
 refine Pl.ak (by kernel_rfl) ?_
 refine Pl.aF trivial rfl rfl rfl rfl rfl ?_
 refine Pl.aj ?_
 repeat refine Pl.ay ?_
 refine Pl.ak (by kernel_rfl) ?_
 refine Pl.aA trivial rfl rfl rfl rfl rfl ?_
 refine Pl.aA trivial rfl rfl rfl rfl rfl ?_
 refine Pl.az rfl rfl rfl rfl rfl (fun u X=>Pl.enters Tryz.func76 (by kernel_rfl) rfl u X) ?_
 refine Calls.mono hby ?_
 rintro e w1 ⟨Ax,nx,cx,Ay,ny,cy,cs,P,Q,rfl,hx,hy,hp,hq,hg,hl,hn,hcc,hB1⟩
 refine ⟨_,rfl,trivial,?_⟩
 refine fB rfl rfl rfl rfl (z:=.agg ([.slice none 0 0,.slice none 0 0,.bool false,.slice none 0 0,.bool false,.slice none 0 0,.bool false,.slice none 0 0,.bool false,.slice none 0 0]:List Value).toArray) (by kernel_rfl) (fun _ _=>trivial) ?_
 intro Ns w2 hB2 hNs ks
 replace ks:Cb w2 Ns 112 [.slice none 0 0,.slice none 0 0,.bool false,.slice none 0 0,.bool false,.slice none 0 0,.bool false,.slice none 0 0,.bool false,.slice none 0 0]:=ks
 refine iC (new:=.slice Ax nx cx::.slice Ay ny cy::cs) ks rfl rfl rfl rfl rfl rfl (by rw [List.length_cons,List.length_cons,hl];kernel_rfl) (by simp [hl]) (by intro c hc;simp only [List.mem_cons] at hc;rcases hc with rfl | rfl | hc;rfl;rfl;exact hcc c hc) trivial ?_
 have x3:Xt [Ns] w2 (w2.setRow Ns (.slice Ax nx cx::.slice Ay ny cy::cs:List Value).toArray):=Xt.put ks (jq (yJ _ _ _) (jq (yJ _ _ _) (aD (aD (aD (aD aK)))))) (by simp [hl]) _
 replace ks:=Cb.put ks (.slice Ax nx cx::.slice Ay ny cy::cs)
 have hE:=(hB1.below hB2).xt x3 (by simp;exact Nat.le_trans hB1.size hNs)
 replace hx:=Un.kp (Un.below hx hB2) x3.kp
 replace hy:=Un.kp (Un.below hy hB2) x3.kp
 generalize w2.setRow Ns (.slice Ax nx cx::.slice Ay ny cy::cs:List Value).toArray=w3 at *
 refine Pl.aj ?_
 repeat refine Pl.ay ?_
 refine Pl.ak (by kernel_rfl) ?_
 refine bL trivial rfl rfl rfl rfl rfl (JA _) ?_
 refine Pl.aH trivial rfl rfl rfl rfl rfl (Cb.jZ (j:=0) ks rfl) ?_
 refine bL trivial rfl rfl rfl rfl rfl (xh _) ?_
 refine Pl.aH trivial rfl rfl rfl rfl rfl (Cb.jZ (j:=1) ks rfl) ?_
 refine Pl.az rfl rfl rfl rfl rfl (fun u X=>Pl.enters Tryz.func14 (by kernel_rfl) rfl u X) ?_
 refine Calls.mono (pE _ _ _ P Q hx hy hp hq) ?_
 rintro e w4 ⟨z,rfl,hz,hB4⟩
 refine ⟨_,rfl,trivial,?_⟩
 refine Pl.aF trivial rfl rfl rfl rfl rfl ?_
 refine Pl.aj ?_
 exact Pl.bI rfl rfl ⟨_,rfl,by rw [← hg];exact hz,hE.below hB4⟩
theorem adg (w:World) (va vb:Value) (a b:Nat) (ha:Un w va a) (hb:Un w vb b) (hla:Sn a 90) (hlb:Sn b 90) (hab:¬ a<b) :
  Calls Tryz.prog 23 #[va,vb] w fun e w'=>∃ z,e = .returned z∧Un w' z (Nat.gcd a b)∧Ext w w':=Tv w va vb a b
 ((FB w va vb a b ha hb hla hlb hab).mono fun e w' ⟨Ax,nx,cx,Ay,ny,cy,cs,h1,h2,h3,h4,h5,h7,h6⟩=>⟨Ax,nx,cx,Ay,ny,cy,cs,a,b,h1,h2,h3,hla,hlb,rfl,h4,h5,h7,h6⟩)
end Go.Proofs.YtfhcmggpojhegaaGreatDoor
