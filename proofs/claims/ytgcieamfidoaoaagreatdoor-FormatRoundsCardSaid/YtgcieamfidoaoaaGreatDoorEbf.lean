/- The document's greatest common divisor. -/
import Derived.Test.YtgcieamfidoaoaaGreatDoorEab
import Derived.Test.YtgcieamfidoaoaaGreatDoorEax
import Derived.Test.YtgcieamfidoaoaaGreatDoorEbe
import Derived.Test.YtgcieamfidoaoaaGreatDoorEbc
import Derived.Test.YtgcieamfidoaoaaGreatDoorEbb
import Derived.Test.YtgcieamfidoaoaaGreatDoorEba
set_option linter.all false
set_option maxHeartbeats 8000000
namespace Go.Proofs.YtgcieamfidoaoaaGreatDoor
open Go.RowKit
set_option maxRecDepth 100000
namespace EQB
set_option maxRecDepth 100000
theorem ae5 (u:Array Value) (X:World):(callFunc 91 u).run Tryz.prog X = .ok (.enter 91 u) X:=Pl.enters Tryz.func91 (by kernel_rfl) rfl u X
end EQB
open EQB
theorem tQ (x y:Nat):Nat.gcd y (x%y)=Nat.gcd x y:=by rw [Nat.gcd_comm x y,Nat.gcd_rec y x,Nat.gcd_comm]
theorem ae6 (w:World) (va vb:Value) (a b g:Nat) (ha:Un w va a) (hb:Un w vb b) (hla:Sn a 100) (hlb:Sn b 100) (hg:Nat.gcd a b=g) :
  Calls Tryz.prog 105 #[va,vb] w fun e w'=>∃ u,e = .returned u∧Un w' u g∧Ext w w':=by
 refine Pl.dF (n:=21) (vs:=[va,vb]) Tryz.func105 rfl (by kernel_rfl) (by simp) ?_
 refine Pl.aG ?_
 refine Pl.aB (by kernel_rfl) ?_
 refine Pl.jB trivial rfl ?_
 refine Pl.aH ?_
 refine Pl.aG ?_
 refine Pl.lM [(0,va),(1,vb)] (Pl.aj rfl (Pl.aj rfl Pl.dQ)) ?_
 refine Pl.ko ?_
 refine Pl.tN (fun k l' w'=>∃ (x y:Nat) (u v:Value),k=y∧Nat.gcd x y=g∧Sn x 100∧Sn y 100∧Ext w w'∧Un w' u x∧Un w' v y∧l'=[(0,u),(1,v)]) b ⟨a,b,va,vb,rfl,hg,hla,hlb,Ext.refl w,ha,hb,rfl⟩ ?_
 rintro y _ w1 ⟨x,_,u,v,rfl,hgk,hx,hy,hB1,h_u,h_v,rfl⟩
 obtain ⟨A_v,c_v,rfl,-⟩:=Un.sh h_v
 rcases Nat.eq_zero_or_pos y with hy0 | hy0
 · refine Pl.aG ?_
   refine Pl.aG ?_
   refine Pl.aB (by kernel_rfl) ?_
   refine Pl.jB trivial rfl ?_
   refine iY trivial rfl rfl rfl rfl rfl ?_
   refine Pl.bn (v:=(.bool false)) trivial rfl rfl rfl rfl rfl rfl (fun X=>yc (decide_eq_false (Cv hy0)) X) ?_
   refine Pl.aH ?_
   refine Pl.gX rfl ?_
   refine Pl.tO ?_
   refine Pl.aG ?_
   refine Pl.aB (by kernel_rfl) ?_
   refine Pl.jB trivial rfl ?_
   refine Pl.aH ?_
   refine Pl.iV rfl rfl ?_
   exact ⟨_,rfl,by rw [← hgk,hy0,Nat.gcd_zero_right];exact h_u,hB1⟩
 · refine Pl.aG ?_
   refine Pl.aG ?_
   refine Pl.aB (by kernel_rfl) ?_
   refine Pl.jB trivial rfl ?_
   refine iY trivial rfl rfl rfl rfl rfl ?_
   refine Pl.bn (v:=(.bool true)) trivial rfl rfl rfl rfl rfl rfl (fun X=>yc (decide_eq_true (Mm hy0)) X) ?_
   refine Pl.aH ?_
   refine Pl.jV rfl ?_
   refine Pl.iT ?_
   refine Pl.ko ?_
   refine Pl.aG ?_
   refine Pl.aB (by kernel_rfl) ?_
   refine Pl.jB trivial rfl ?_
   refine Pl.bX rfl rfl rfl rfl rfl ae5 ?_
   refine Calls.mono (sI _ _ _ x y _ _ h_u h_v (Sn.le hx (by decide)) (Sn.le hy (by decide)) (Nat.ne_of_gt hy0) rfl rfl) ?_
   rintro e w2 ⟨⟨ae8,ack,rfl,acm,Za⟩,hB2⟩
   refine ⟨_,rfl,trivial,?_⟩
   have Zb:Sn (x/y) 100:=Sn.div hx
   have acn:Sn (x%y) 100:=Sn.mod hy (Nat.ne_of_gt hy0)
   refine Pl.jB trivial rfl ?_
   refine Pl.aH ?_
   refine Pl.aG ?_
   refine Pl.aB (by kernel_rfl) ?_
   refine Pl.jB trivial rfl ?_
   refine Pl.aH ?_
   refine Pl.aB (by kernel_rfl) ?_
   refine Pl.jB trivial rfl ?_
   refine Pl.aH ?_
   refine Pl.iU ?_
   have Zc:=Un.below h_v hB2
   exact Pl.nD [(0,.slice A_v (limbs y).length c_v),(1,ack)] (Pl.aj rfl (Pl.aj rfl Pl.dQ)) (Nat.mod_lt x hy0) ⟨y,x%y,_,_,rfl,(tQ x y).trans hgk,hy,acn,(Ext.below hB1 hB2),Zc,Za,rfl⟩
end Go.Proofs.YtgcieamfidoaoaaGreatDoor
/- Rationals in lowest terms. -/
namespace Go.Proofs.YtgcieamfidoaoaaGreatDoor
open Go.RowKit 
set_option maxRecDepth 100000
theorem Qw {w:World} {A:Option Addr} {c L n:Nat} (h:Un w (.slice A L c) n):Zn w (.agg #[.bool false,.slice A L c]) (n:Int):=by
 obtain rfl:L=_:=h.len
 refine ⟨A,c,?_,h⟩
 rw [show decide (((n:Nat):Int)<0)=false from decide_eq_false (by omega)];rfl
theorem fA (w:World) (va:Value) (a:Nat) (ha:Un w va a) :
  Calls Tryz.prog 68 #[va] w fun e w'=>∃ u,e = .returned u∧Zn w' u ((a:Nat):Int)∧Pl.Ex w w':=by
 refine Pl.dF (n:=5) (vs:=[va]) Tryz.func68 rfl (by kernel_rfl) (by simp) ?_
 refine Pl.aab rfl ?_
 refine Pl.mI (z:=.agg #[.bool false,.slice none 0 0]) (by kernel_rfl) rfl rfl rfl rfl (fun Y hY=>trivial) ?_
 intro N1 w1 hE1 vM eX
 have DT:=Pl.Cb.lt eX
 have Tx:=Pl.Ex.size hE1
 replace eX:Pl.Cb w1 N1 34 [.bool false,.slice none 0 0]:=eX
 refine Pl.aH ?_
 refine Pl.aab rfl ?_
 refine Pl.jB trivial rfl ?_
 obtain ⟨A2,c3,rfl⟩:=Un.jX (Un.below ha hE1)
 refine Pl.mo (.agg #[.bool false,(.slice A2 (limbs a).length c3)]) trivial rfl rfl rfl rfl (fun X=>by kernel_rfl) ?_
 refine Pl.lI (new:=[.bool false,(.slice A2 (limbs a).length c3)]) eX (by kernel_rfl) rfl (by simp [Value.oneCell']) rfl rfl rfl rfl rfl rfl (fun Y hY=>trivial) ?_
 intro w2 hX2 Zp
 have hE2:=Pl.Ex.xs hE1 hX2 (by omega)
 have UO:=Pl.Xs.size hX2
 refine Pl.aH ?_
 repeat refine Pl.aG ?_
 exact Pl.lJ rfl rfl Zp Tryz.underlying34 rfl (by kernel_rfl) (⟨_,rfl,Qw (Un.below ha hE2),hE2⟩)
theorem Sn.Ic {z:Int} {K:Nat} (h:Sz z K):Sn z.natAbs K:=h
theorem mk_pos {n d:Int} {g:Nat} (h0:d≠0) (hg:Nat.gcd n.natAbs d.natAbs=g) (h:¬ d<0):(Rat.divInt n d).num=n/(g:Int)∧(Rat.divInt n d).den=(((d.natAbs:Nat):Int)/(g:Int)).natAbs:=by
 subst hg
 refine ⟨by rw [Rq.Sd h0,if_neg h],by rw [Rq.Si h0];rfl⟩
theorem Sq {n d:Int} {g:Nat} (h0:d≠0) (hg:Nat.gcd n.natAbs d.natAbs=g) (h:d<0):(Rat.divInt n d).num = -(n/(g:Int))∧(Rat.divInt n d).den=(((d.natAbs:Nat):Int)/(g:Int)).natAbs:=by
 subst hg
 refine ⟨by rw [Rq.Sd h0,if_pos h],by rw [Rq.Si h0];rfl⟩
theorem kK (w:World) (vn vd:Value) (n d:Int) (hn:Zn w vn n) (hd:Zn w vd d) (L M:Nat) (ln:Sz n L) (ld:Sz d M) (hL:L≤100) (hM:M≤100) (hd0:d≠0) :
  Calls Tryz.prog 59 #[vn,vd] w fun e w'=>∃ u,e = .returned (.tuple #[u,.int .i64 0])∧Qn w' u (Rat.divInt n d) L M∧Pl.Ex w w':=by
 obtain ⟨An,cn,rfl,un⟩:=hn
 obtain ⟨Ad,cd,rfl,ud⟩:=hd
 obtain ⟨g,hgg⟩:∃ g,Nat.gcd n.natAbs d.natAbs=g:=⟨_,rfl⟩
 have hg0:g≠0:=by rw [← hgg];exact fun h=>hd0 (Int.natAbs_eq_zero.1 (Nat.eq_zero_of_gcd_eq_zero_right h))
 have lg:Sn g 100:=by rw [← hgg];exact Sn.down (n:=d.natAbs) (Sn.le ld (by omega)) (Nat.gcd_le_right _ (by omega))
 have dn:n%(g:Int)=0:=by rw [← hgg];exact Int.emod_eq_zero_of_dvd (Int.dvd_natAbs.1 (Int.natCast_dvd_natCast.2 (Nat.gcd_dvd_left _ _)))
 have dd:((d.natAbs:Nat):Int)%(g:Int)=0:=by rw [← hgg];exact Int.emod_eq_zero_of_dvd (Int.natCast_dvd_natCast.2 (Nat.gcd_dvd_right _ _))
 refine Pl.dF (n:=44) (vs:=[.agg #[.bool (decide (n<0)),.slice An (limbs (Int.natAbs n)).length cn],.agg #[.bool (decide (d<0)),.slice Ad (limbs (Int.natAbs d)).length cd]]) Tryz.func59 rfl (by kernel_rfl) (by simp) ?_
 refine Pl.aab rfl ?_
 refine Pl.oW (cs:=[.bool (decide (n<0)),.slice An (limbs (Int.natAbs n)).length cn]) rfl rfl rfl rfl rfl rfl (fun Y hY=>trivial) ?_
 intro N1 w1 hE1 vM eX
 have DT:=Pl.Cb.lt eX
 have Tx:=Pl.Ex.size hE1
 refine Pl.oW (cs:=[.bool (decide (d<0)),.slice Ad (limbs (Int.natAbs d)).length cd]) rfl rfl rfl rfl rfl rfl (fun Y hY=>trivial) ?_
 intro N2 w2 hE2 zV eO
 have Iw:=Pl.Cb.lt eO
 have UO:=Pl.Ex.size hE2
 refine Pl.mI (z:=.agg #[.bool false,.slice none 0 0,.slice none 0 0]) (by kernel_rfl) rfl rfl rfl rfl (fun Y hY=>trivial) ?_
 intro N3 w3 gF Iy eF
 have QY:=Pl.Cb.lt eF
 have UQ:=Pl.Ex.size gF
 replace eF:Pl.Cb w3 N3 36 [.bool false,.slice none 0 0,.slice none 0 0]:=eF
 refine Pl.jB trivial rfl ?_
 refine Pl.aH ?_
 refine Pl.aab rfl ?_
 refine Pl.mo (.pointer (some ⟨N2,1,none⟩)) trivial rfl rfl rfl rfl (fun X=>by kernel_rfl) ?_
 refine Pl.rQ (v:=.slice Ad (limbs (Int.natAbs d)).length cd) Tryz.underlying24 rfl (Pl.Cb.at (j:=1) (Pl.Cb.ex eO gF) rfl) trivial rfl rfl rfl rfl rfl ?_
 refine Pl.P7 Tryz.underlying24 trivial rfl rfl rfl rfl rfl ?_
 have ahk:¬ (((limbs (Int.natAbs d)).length)=0):=(fun h9=>hd0 (Int.natAbs_eq_zero.1 (jQ.1 h9)))
 refine Pl.Vl (v:=.bool false) (fun X=>Pl.xA (Pl.e_f (by omega)) X) trivial rfl rfl rfl rfl rfl rfl ?_
 refine Pl.aH ?_
 repeat refine Pl.aG ?_
 refine Pl.gX rfl ?_
 repeat refine Pl.aG ?_
 refine Pl.iT ?_
 refine Pl.aab rfl ?_
 refine Pl.mo (.pointer (some ⟨N1,1,none⟩)) trivial rfl rfl rfl rfl (fun X=>by kernel_rfl) ?_
 refine Pl.rQ (v:=.slice An (limbs (Int.natAbs n)).length cn) Tryz.underlying24 rfl (Pl.Cb.at (j:=1) (Pl.Cb.ex eX (Pl.Ex.trans hE2 gF)) rfl) trivial rfl rfl rfl rfl rfl ?_
 refine Pl.mo (.pointer (some ⟨N2,1,none⟩)) trivial rfl rfl rfl rfl (fun X=>by kernel_rfl) ?_
 refine Pl.rQ (v:=.slice Ad (limbs (Int.natAbs d)).length cd) Tryz.underlying24 rfl (Pl.Cb.at (j:=1) (Pl.Cb.ex eO gF) rfl) trivial rfl rfl rfl rfl rfl ?_
 refine Pl.bX rfl rfl rfl rfl rfl (Pl.en Tryz.func105) ?_
 refine Calls.mono (ae6 _ _ _ (Int.natAbs n) (Int.natAbs d) g (Un.below un (Pl.Ex.trans hE1 (Pl.Ex.trans hE2 gF))) (Un.below ud (Pl.Ex.trans hE1 (Pl.Ex.trans hE2 gF))) (Sn.le ln (by omega)) (Sn.le ld (by omega)) hgg) ?_
 rintro e w4 ⟨vg,rfl,hvg,kM⟩
 have WC:=Pl.Ex.size kM
 refine ⟨_,rfl,trivial,?_⟩
 refine Pl.bX rfl rfl rfl rfl rfl (Pl.en Tryz.func68) ?_
 refine Calls.mono (fA _ _ g hvg) ?_
 rintro e w5 ⟨v4,rfl,hv4,nC⟩
 obtain ⟨A5,c6,rfl,u7⟩:=hv4
 have Z4:=Pl.Ex.size nC
 refine ⟨_,rfl,trivial,?_⟩
 refine Pl.mI (z:=.agg #[.bool false,.slice none 0 0]) (by kernel_rfl) rfl rfl rfl rfl (fun Y hY=>trivial) ?_
 intro N8 w6 mG ahl Gc
 have ajE:=Pl.Cb.lt Gc
 have Ty:=Pl.Ex.size mG
 replace Gc:Pl.Cb w6 N8 34 [.bool false,.slice none 0 0]:=Gc
 refine Pl.lI (new:=[.bool (decide (((g:Nat):Int)<0)),.slice A5 (limbs (Int.natAbs ((g:Nat):Int))).length c6]) Gc (by kernel_rfl) rfl (by simp [Value.oneCell']) rfl rfl rfl rfl rfl rfl (fun Y hY=>trivial) ?_
 intro w7 yQ Gd
 have pg:=Pl.Ex.xs mG yQ (by omega)
 have Tz:=Pl.Xs.size yQ
 refine Pl.aH ?_
 refine Pl.aab rfl ?_
 refine Pl.jA (part:=[.bool (decide (n<0)),.slice An (limbs (Int.natAbs n)).length cn]) (Pl.Cb.ex eX (Pl.Ex.trans hE2 (Pl.Ex.trans gF (Pl.Ex.trans kM (Pl.Ex.trans nC pg))))) rfl Tryz.underlying34 rfl (by kernel_rfl) trivial rfl rfl rfl rfl rfl ?_
 refine Pl.jA (part:=[.bool (decide (((g:Nat):Int)<0)),.slice A5 (limbs (Int.natAbs ((g:Nat):Int))).length c6]) Gd rfl Tryz.underlying34 rfl (by kernel_rfl) trivial rfl rfl rfl rfl rfl ?_
 refine Pl.bX rfl rfl rfl rfl rfl (Pl.en Tryz.func106) ?_
 refine Calls.mono (pW _ _ _ n ((g:Nat):Int) (Zn.of (Un.below un (Pl.Ex.trans hE1 (Pl.Ex.trans hE2 (Pl.Ex.trans gF (Pl.Ex.trans kM (Pl.Ex.trans nC pg))))))) (Zn.of (Un.below u7 pg)) (Sz.le ln (by omega)) (Sz.le (Sn.sz lg) (by decide)) (by omega) dn _ rfl) ?_
 rintro e w8 ⟨vp,rfl,hvp,EG⟩
 obtain ⟨Ap,cp,rfl,up⟩:=hvp
 have U5:=Pl.Ex.size EG
 refine ⟨_,rfl,trivial,?_⟩
 refine Pl.jB trivial rfl ?_
 refine Pl.mI (z:=.agg #[.bool false,.slice none 0 0]) (by kernel_rfl) rfl rfl rfl rfl (fun Y hY=>trivial) ?_
 intro N9 w9 hE9 ahn Gf
 have ajF:=Pl.Cb.lt Gf
 have sz9:=Pl.Ex.size hE9
 replace Gf:Pl.Cb w9 N9 34 [.bool false,.slice none 0 0]:=Gf
 refine Pl.lI (new:=[.bool (decide ((n/((g:Nat):Int))<0)),.slice Ap (limbs (Int.natAbs (n/((g:Nat):Int)))).length cp]) Gf (by kernel_rfl) rfl (by simp [Value.oneCell']) rfl rfl rfl rfl rfl rfl (fun Y hY=>trivial) ?_
 intro w10 Cy zB
 have uj:=Pl.Ex.xs hE9 Cy (by omega)
 have abW:=Pl.Xs.size Cy
 refine Pl.jB trivial rfl ?_
 refine Pl.aH ?_
 repeat refine Pl.aG ?_
 refine Pl.Zo (fun l' w'=>∃ (Nq:Nat) (Aq:Option Addr) (cq:Nat),Pl.Ex w10 w'∧(Pl.Cb w' Nq 34 [.bool (decide ((((Int.natAbs d:Nat):Int)/((g:Nat):Int))<0)),.slice Aq (limbs (Int.natAbs (((Int.natAbs d:Nat):Int)/((g:Nat):Int)))).length cq])∧(w10.heap.size≤Nq)∧(Un w' (.slice Aq (limbs (Int.natAbs (((Int.natAbs d:Nat):Int)/((g:Nat):Int)))).length cq) (Int.natAbs (((Int.natAbs d:Nat):Int)/((g:Nat):Int))))∧l'=[(2,.pointer (some ⟨N1,0,none⟩)),(3,.pointer (some ⟨N2,0,none⟩)),(4,.pointer (some ⟨N3,0,none⟩)),(5,.int .i64 0),(6,.pointer (some ⟨N8,0,none⟩)),(7,.pointer (some ⟨N9,0,none⟩)),(8,.bool true),(9,.pointer (some ⟨Nq,0,none⟩)),(10,.bool true)]) ?_ fun KY=>?_
 · rintro _ w11 ⟨Nq,Aq,cq,mX,kNq,hNq,uq,rfl⟩
   have YS:=Pl.Ex.size mX
   refine Pl.aab rfl ?_
   refine Pl.mo (.pointer (some ⟨N2,0,none⟩)) trivial rfl rfl rfl rfl (fun X=>by kernel_rfl) ?_
   by_cases c11:d<0
   · have hneg:=c11
     refine Pl.rQ (v:=.bool true) Tryz.underlying4 rfl ((by have h9:=(Pl.Cb.at (j:=0) (Pl.Cb.ex eO (Pl.Ex.trans gF (Pl.Ex.trans kM (Pl.Ex.trans nC (Pl.Ex.trans pg (Pl.Ex.trans EG (Pl.Ex.trans uj mX))))))) rfl);rw [decide_eq_true hneg] at h9;exact h9)) trivial rfl rfl rfl rfl rfl ?_
     refine Pl.aH ?_
     repeat refine Pl.aG ?_
     refine Pl.jV rfl ?_
     refine Pl.aab rfl ?_
     refine Pl.jA (part:=[.bool (decide ((n/((g:Nat):Int))<0)),.slice Ap (limbs (Int.natAbs (n/((g:Nat):Int)))).length cp]) (Pl.Cb.ex zB mX) rfl Tryz.underlying34 rfl (by kernel_rfl) trivial rfl rfl rfl rfl rfl ?_
     refine Pl.bX rfl rfl rfl rfl rfl (Pl.en Tryz.func84) ?_
     refine Calls.mono (WM _ _ _ (Zn.of (Un.below up (Pl.Ex.trans uj mX))) (Sz.le (Sz.div ln) (by omega)) _ rfl) ?_
     rintro e w12 ⟨vm,rfl,hvm,pK⟩
     obtain ⟨Am,cm,rfl,um⟩:=hvm
     have Ri:=Pl.Ex.size pK
     refine ⟨_,rfl,trivial,?_⟩
     refine Pl.lI (new:=[.bool (decide ((-(n/((g:Nat):Int)))<0)),.slice Am (limbs (Int.natAbs (-(n/((g:Nat):Int))))).length cm]) (Pl.Cb.ex zB (Pl.Ex.trans mX pK)) (by kernel_rfl) rfl (by simp [Value.oneCell']) rfl rfl rfl rfl rfl rfl (fun Y hY=>trivial) ?_
     intro w13 Sr KZ
     have pM:=Pl.Ex.xs (Pl.Ex.trans uj (Pl.Ex.trans mX pK)) Sr (by omega)
     have Rj:=Pl.Xs.size Sr
     have K3:=Pl.Cb.xs (Pl.Cb.ex kNq pK) Sr (by simp;omega)
     refine Pl.aH ?_
     refine Pl.aab rfl ?_
     refine Pl.jA (part:=[.bool (decide ((-(n/((g:Nat):Int)))<0)),.slice Am (limbs (Int.natAbs (-(n/((g:Nat):Int))))).length cm]) KZ rfl Tryz.underlying34 rfl (by kernel_rfl) trivial rfl rfl rfl rfl rfl ?_
     refine Pl.mo (.pointer (some ⟨Nq,1,none⟩)) trivial rfl rfl rfl rfl (fun X=>by kernel_rfl) ?_
     refine Pl.rQ (v:=.slice Aq (limbs (Int.natAbs (((Int.natAbs d:Nat):Int)/((g:Nat):Int)))).length cq) Tryz.underlying24 rfl (Pl.Cb.at (j:=1) K3 rfl) trivial rfl rfl rfl rfl rfl ?_
     refine Pl.mo (.agg #[.bool (decide ((-(n/((g:Nat):Int)))<0)),.slice Am (limbs (Int.natAbs (-(n/((g:Nat):Int))))).length cm,.slice Aq (limbs (Int.natAbs (((Int.natAbs d:Nat):Int)/((g:Nat):Int)))).length cq]) trivial rfl rfl rfl rfl (fun X=>by kernel_rfl) ?_
     refine Pl.lI (new:=[.bool (decide ((-(n/((g:Nat):Int)))<0)),.slice Am (limbs (Int.natAbs (-(n/((g:Nat):Int))))).length cm,.slice Aq (limbs (Int.natAbs (((Int.natAbs d:Nat):Int)/((g:Nat):Int)))).length cq]) (Pl.Cb.ex eF (Pl.Ex.trans kM (Pl.Ex.trans nC (Pl.Ex.trans pg (Pl.Ex.trans EG pM))))) (by kernel_rfl) rfl (by simp [Value.oneCell']) rfl rfl rfl rfl rfl rfl (fun Y hY=>trivial) ?_
     intro w14 K4 mV
     have uk:=Pl.Ex.xs (Pl.Ex.trans gF (Pl.Ex.trans kM (Pl.Ex.trans nC (Pl.Ex.trans pg (Pl.Ex.trans EG pM))))) K4 (by omega)
     have Zq:=Pl.Xs.size K4
     have Zr:=Pl.Cb.xs (Pl.Cb.ex Gd (Pl.Ex.trans EG pM)) K4 (by simp;omega)
     have afl:=Pl.Cb.xs KZ K4 (by simp;omega)
     have afm:=Pl.Cb.xs K3 K4 (by simp;omega)
     refine Pl.jB trivial rfl ?_
     refine Pl.aH ?_
     have k12:=Un.xs um Sr (Pl.Cb.ex zB (Pl.Ex.trans mX pK)) (by simp)
     have k13:=Un.xs k12 K4 (Pl.Cb.ex eF (Pl.Ex.trans kM (Pl.Ex.trans nC (Pl.Ex.trans pg (Pl.Ex.trans EG pM))))) (by simp)
     have k14:=Un.xs (Un.below uq pK) Sr (Pl.Cb.ex zB (Pl.Ex.trans mX pK)) (by simp)
     have k15:=Un.xs k14 K4 (Pl.Cb.ex eF (Pl.Ex.trans kM (Pl.Ex.trans nC (Pl.Ex.trans pg (Pl.Ex.trans EG pM))))) (by simp)
     repeat refine Pl.aG ?_
     exact Pl.C9 rfl rfl rfl mV Tryz.underlying36 rfl (by kernel_rfl) (⟨_,rfl,Qn.of (Sq hd0 hgg hneg).1 (Sq hd0 hgg hneg).2 k13 k15 (Sz.neg (Sz.div ln)) (Sn.Ic (Sz.div (Sn.sz (Sz.sn ld)))),(Pl.Ex.trans hE1 (Pl.Ex.trans hE2 uk))⟩)
   · have hneg:=c11
     refine Pl.rQ (v:=.bool false) Tryz.underlying4 rfl ((by have h9:=(Pl.Cb.at (j:=0) (Pl.Cb.ex eO (Pl.Ex.trans gF (Pl.Ex.trans kM (Pl.Ex.trans nC (Pl.Ex.trans pg (Pl.Ex.trans EG (Pl.Ex.trans uj mX))))))) rfl);rw [decide_eq_false hneg] at h9;exact h9)) trivial rfl rfl rfl rfl rfl ?_
     refine Pl.aH ?_
     repeat refine Pl.aG ?_
     refine Pl.gX rfl ?_
     repeat refine Pl.aG ?_
     refine Pl.iT ?_
     refine Pl.aab rfl ?_
     refine Pl.jA (part:=[.bool (decide ((n/((g:Nat):Int))<0)),.slice Ap (limbs (Int.natAbs (n/((g:Nat):Int)))).length cp]) (Pl.Cb.ex zB mX) rfl Tryz.underlying34 rfl (by kernel_rfl) trivial rfl rfl rfl rfl rfl ?_
     refine Pl.mo (.pointer (some ⟨Nq,1,none⟩)) trivial rfl rfl rfl rfl (fun X=>by kernel_rfl) ?_
     refine Pl.rQ (v:=.slice Aq (limbs (Int.natAbs (((Int.natAbs d:Nat):Int)/((g:Nat):Int)))).length cq) Tryz.underlying24 rfl (Pl.Cb.at (j:=1) kNq rfl) trivial rfl rfl rfl rfl rfl ?_
     refine Pl.mo (.agg #[.bool (decide ((n/((g:Nat):Int))<0)),.slice Ap (limbs (Int.natAbs (n/((g:Nat):Int)))).length cp,.slice Aq (limbs (Int.natAbs (((Int.natAbs d:Nat):Int)/((g:Nat):Int)))).length cq]) trivial rfl rfl rfl rfl (fun X=>by kernel_rfl) ?_
     refine Pl.lI (new:=[.bool (decide ((n/((g:Nat):Int))<0)),.slice Ap (limbs (Int.natAbs (n/((g:Nat):Int)))).length cp,.slice Aq (limbs (Int.natAbs (((Int.natAbs d:Nat):Int)/((g:Nat):Int)))).length cq]) (Pl.Cb.ex eF (Pl.Ex.trans kM (Pl.Ex.trans nC (Pl.Ex.trans pg (Pl.Ex.trans EG (Pl.Ex.trans uj mX)))))) (by kernel_rfl) rfl (by simp [Value.oneCell']) rfl rfl rfl rfl rfl rfl (fun Y hY=>trivial) ?_
     intro w12 K5 mV
     have pK:=Pl.Ex.xs (Pl.Ex.trans gF (Pl.Ex.trans kM (Pl.Ex.trans nC (Pl.Ex.trans pg (Pl.Ex.trans EG (Pl.Ex.trans uj mX)))))) K5 (by omega)
     have Ri:=Pl.Xs.size K5
     have Zr:=Pl.Cb.xs (Pl.Cb.ex Gd (Pl.Ex.trans EG (Pl.Ex.trans uj mX))) K5 (by simp;omega)
     have KZ:=Pl.Cb.xs (Pl.Cb.ex zB mX) K5 (by simp;omega)
     have K3:=Pl.Cb.xs kNq K5 (by simp;omega)
     refine Pl.jB trivial rfl ?_
     refine Pl.aH ?_
     have k12:=Un.xs (Un.below up (Pl.Ex.trans uj mX)) K5 (Pl.Cb.ex eF (Pl.Ex.trans kM (Pl.Ex.trans nC (Pl.Ex.trans pg (Pl.Ex.trans EG (Pl.Ex.trans uj mX)))))) (by simp)
     have k13:=Un.xs uq K5 (Pl.Cb.ex eF (Pl.Ex.trans kM (Pl.Ex.trans nC (Pl.Ex.trans pg (Pl.Ex.trans EG (Pl.Ex.trans uj mX)))))) (by simp)
     repeat refine Pl.aG ?_
     exact Pl.C9 rfl rfl rfl mV Tryz.underlying36 rfl (by kernel_rfl) (⟨_,rfl,Qn.of (mk_pos hd0 hgg hneg).1 (mk_pos hd0 hgg hneg).2 k12 k13 (Sz.div ln) (Sn.Ic (Sz.div (Sn.sz (Sz.sn ld)))),(Pl.Ex.trans hE1 (Pl.Ex.trans hE2 pK))⟩)
 · repeat refine Pl.aG ?_
   refine Pl.FZ (S:=fun X=>Pl.Ex w10 X) fo (Pl.Ex.trans (Pl.Ex.refl _) (Pl.Ex.drew _)) ?_
   have mX:=Pl.Ex.drew w10
   generalize w10.drew=w11 at *
   have YS:=Pl.Ex.size mX
   intro OY
   refine Pl.F3 [(true,0,0),(true,1,1),(true,3,3)] 11 8 Pl.gQ (by kernel_rfl) (by kernel_rfl) (by kernel_rfl) ?_
   refine Pl.mo (.pointer (some ⟨N2,1,none⟩)) OY rfl rfl rfl rfl (fun X=>by kernel_rfl) ?_
   refine Pl.WL (v:=.slice Ad (limbs (Int.natAbs d)).length cd) Tryz.underlying24 rfl (fun X hX=>Pl.Cb.at (j:=1) (Pl.Cb.ex (Pl.Cb.ex eO (Pl.Ex.trans gF (Pl.Ex.trans kM (Pl.Ex.trans nC (Pl.Ex.trans pg (Pl.Ex.trans EG uj)))))) hX) rfl) OY rfl rfl rfl rfl rfl ?_
   refine Pl.Q8 (part:=[.bool (decide (((g:Nat):Int)<0)),.slice A5 (limbs (Int.natAbs ((g:Nat):Int))).length c6]) (fun X hX=>Pl.Cb.ex (Pl.Cb.ex Gd (Pl.Ex.trans EG uj)) hX) rfl Tryz.underlying34 rfl (by kernel_rfl) OY rfl rfl rfl rfl rfl ?_
   refine Pl.aH ?_
   refine Pl.Xg [2,8] 7 (by kernel_rfl) (by kernel_rfl) (by kernel_rfl) (Pl.uR ?_ (Pl.uR ?_ Pl.Jb))
   · refine Pl.bX rfl rfl rfl rfl rfl (Pl.en Tryz.func68) ?_
     refine Calls.mono (fA _ _ (Int.natAbs d) (Un.below ud (Pl.Ex.trans hE1 (Pl.Ex.trans hE2 (Pl.Ex.trans gF (Pl.Ex.trans kM (Pl.Ex.trans nC (Pl.Ex.trans pg (Pl.Ex.trans EG (Pl.Ex.trans uj mX)))))))))) ?_
     rintro e w12 ⟨v11,rfl,afn,pK⟩
     obtain ⟨A12,c13,rfl,u14⟩:=afn
     have Ri:=Pl.Ex.size pK
     have OZ:=Pl.Ex.trans OY pK
     refine ⟨_,rfl,OZ,?_⟩
     refine Pl.aH ?_
     refine Pl.Xg [4,8] 6 (by kernel_rfl) (by kernel_rfl) (by kernel_rfl) (Pl.uR ?_ (Pl.uR ?_ Pl.Jb))
     · refine Pl.bX rfl rfl rfl rfl rfl (Pl.en Tryz.func106) ?_
       refine Calls.mono (pW _ _ _ ((Int.natAbs d:Nat):Int) ((g:Nat):Int) (Zn.of u14) (Zn.of (Un.below u7 (Pl.Ex.trans pg (Pl.Ex.trans EG (Pl.Ex.trans uj (Pl.Ex.trans mX pK)))))) (Sz.le (Sn.sz (Sz.sn ld)) (by omega)) (Sz.le (Sn.sz lg) (by decide)) (by omega) dd _ rfl) ?_
       rintro e w13 ⟨vq,rfl,vO,pM⟩
       obtain ⟨Aq,cq,rfl,uq⟩:=vO
       have Rj:=Pl.Ex.size pM
       have Gg:=Pl.Ex.trans OZ pM
       refine ⟨_,rfl,Gg,?_⟩
       refine Pl.aH ?_
       refine Pl.F3 [(true,5,31),(true,6,63),(true,7,127),(false,8,255),(false,9,511),(true,10,1023)] 2047 0 Pl.gQ (by kernel_rfl) (by kernel_rfl) (by kernel_rfl) ?_
       refine Pl.jB Gg rfl ?_
       refine Pl.mI (z:=.agg #[.bool false,.slice none 0 0]) (by kernel_rfl) rfl rfl rfl rfl (fun Y hY=>Pl.Ex.trans Gg hY) ?_
       intro Zt w14 uk Zu nH
       have acK:=Pl.Cb.lt nH
       have Zq:=Pl.Ex.size uk
       replace nH:Pl.Cb w14 Zt 34 [.bool false,.slice none 0 0]:=nH
       have AY:=Pl.Ex.trans Gg uk
       refine Pl.lI (new:=[.bool (decide ((((Int.natAbs d:Nat):Int)/((g:Nat):Int))<0)),.slice Aq (limbs (Int.natAbs (((Int.natAbs d:Nat):Int)/((g:Nat):Int)))).length cq]) nH (by kernel_rfl) rfl (by simp [Value.oneCell']) rfl rfl rfl rfl rfl rfl (fun Y hY=>Pl.Ex.xs AY hY (by omega)) ?_
       intro w15 zC Gi
       have O0:=Pl.Ex.xs uk zC (by omega)
       have acL:=Pl.Xs.size zC
       have Su:=Pl.Ex.xs AY zC (by omega)
       refine Pl.jB Su rfl ?_
       refine Pl.aH ?_
       refine Pl.G_V (by kernel_rfl) ?_
       refine Pl.lM [(2,.pointer (some ⟨N1,0,none⟩)),(3,.pointer (some ⟨N2,0,none⟩)),(4,.pointer (some ⟨N3,0,none⟩)),(5,.int .i64 0),(6,.pointer (some ⟨N8,0,none⟩)),(7,.pointer (some ⟨N9,0,none⟩)),(8,.bool true),(9,.pointer (some ⟨Zt,0,none⟩)),(10,.bool true)] (Pl.aj rfl (Pl.aj rfl (Pl.aj rfl (Pl.aj rfl (Pl.aj rfl (Pl.aj rfl (Pl.aj rfl (Pl.aj rfl (Pl.aj rfl Pl.dQ))))))))) ?_
       exact KY _ _ ⟨Zt,Aq,cq,(Pl.Ex.trans mX (Pl.Ex.trans pK (Pl.Ex.trans pM O0))),Gi,(by omega),(Un.below uq O0),rfl⟩
     · refine Pl.mI (z:=.agg #[.bool false,.slice none 0 0]) (by kernel_rfl) rfl rfl rfl rfl (fun Y hY=>Pl.Ex.trans OZ hY) ?_
       intro Zt w13 pM Zu nH
       have acK:=Pl.Cb.lt nH
       have Rj:=Pl.Ex.size pM
       replace nH:Pl.Cb w13 Zt 34 [.bool false,.slice none 0 0]:=nH
       have Gg:=Pl.Ex.trans OZ pM
       refine Pl.aH ?_
       refine Pl.F3 [(false,4,271),(true,5,287),(true,6,319),(true,7,383),(false,9,511),(true,10,1023)] 2047 0 Pl.gQ (by kernel_rfl) (by kernel_rfl) (by kernel_rfl) ?_
       refine Pl.bX rfl rfl rfl rfl rfl (Pl.en Tryz.func106) ?_
       refine Calls.mono (pW _ _ _ ((Int.natAbs d:Nat):Int) ((g:Nat):Int) (Zn.of (Un.below u14 pM)) (Zn.of (Un.below u7 (Pl.Ex.trans pg (Pl.Ex.trans EG (Pl.Ex.trans uj (Pl.Ex.trans mX (Pl.Ex.trans pK pM))))))) (Sz.le (Sn.sz (Sz.sn ld)) (by omega)) (Sz.le (Sn.sz lg) (by decide)) (by omega) dd _ rfl) ?_
       rintro e w14 ⟨vq,rfl,vO,uk⟩
       obtain ⟨Aq,cq,rfl,uq⟩:=vO
       have Zq:=Pl.Ex.size uk
       have AY:=Pl.Ex.trans Gg uk
       refine ⟨_,rfl,AY,?_⟩
       refine Pl.jB AY rfl ?_
       refine Pl.lI (new:=[.bool (decide ((((Int.natAbs d:Nat):Int)/((g:Nat):Int))<0)),.slice Aq (limbs (Int.natAbs (((Int.natAbs d:Nat):Int)/((g:Nat):Int)))).length cq]) (Pl.Cb.ex nH uk) (by kernel_rfl) rfl (by simp [Value.oneCell']) rfl rfl rfl rfl rfl rfl (fun Y hY=>Pl.Ex.xs AY hY (by omega)) ?_
       intro w15 zC Gi
       have O0:=Pl.Ex.xs (Pl.Ex.trans pM uk) zC (by omega)
       have acL:=Pl.Xs.size zC
       have Su:=Pl.Ex.xs AY zC (by omega)
       refine Pl.jB Su rfl ?_
       refine Pl.aH ?_
       refine Pl.G_V (by kernel_rfl) ?_
       refine Pl.lM [(2,.pointer (some ⟨N1,0,none⟩)),(3,.pointer (some ⟨N2,0,none⟩)),(4,.pointer (some ⟨N3,0,none⟩)),(5,.int .i64 0),(6,.pointer (some ⟨N8,0,none⟩)),(7,.pointer (some ⟨N9,0,none⟩)),(8,.bool true),(9,.pointer (some ⟨Zt,0,none⟩)),(10,.bool true)] (Pl.aj rfl (Pl.aj rfl (Pl.aj rfl (Pl.aj rfl (Pl.aj rfl (Pl.aj rfl (Pl.aj rfl (Pl.aj rfl (Pl.aj rfl Pl.dQ))))))))) ?_
       have k16:=Un.xs uq zC (Pl.Cb.ex nH uk) (by simp)
       exact KY _ _ ⟨Zt,Aq,cq,(Pl.Ex.trans mX (Pl.Ex.trans pK O0)),Gi,(by omega),k16,rfl⟩
   · refine Pl.mI (z:=.agg #[.bool false,.slice none 0 0]) (by kernel_rfl) rfl rfl rfl rfl (fun Y hY=>Pl.Ex.trans OY hY) ?_
     intro N11 w12 pK afp yz
     have ahq:=Pl.Cb.lt yz
     have Ri:=Pl.Ex.size pK
     replace yz:Pl.Cb w12 N11 34 [.bool false,.slice none 0 0]:=yz
     have OZ:=Pl.Ex.trans OY pK
     refine Pl.aH ?_
     refine Pl.F3 [(false,2,267),(false,4,271),(true,5,287),(true,6,319),(true,7,383),(false,9,511),(true,10,1023)] 2047 0 Pl.gQ (by kernel_rfl) (by kernel_rfl) (by kernel_rfl) ?_
     refine Pl.bX rfl rfl rfl rfl rfl (Pl.en Tryz.func68) ?_
     refine Calls.mono (fA _ _ (Int.natAbs d) (Un.below ud (Pl.Ex.trans hE1 (Pl.Ex.trans hE2 (Pl.Ex.trans gF (Pl.Ex.trans kM (Pl.Ex.trans nC (Pl.Ex.trans pg (Pl.Ex.trans EG (Pl.Ex.trans uj (Pl.Ex.trans mX pK))))))))))) ?_
     rintro e w13 ⟨v12,rfl,afq,pM⟩
     obtain ⟨A13,c14,rfl,u15⟩:=afq
     have Rj:=Pl.Ex.size pM
     have Gg:=Pl.Ex.trans OZ pM
     refine ⟨_,rfl,Gg,?_⟩
     refine Pl.bX rfl rfl rfl rfl rfl (Pl.en Tryz.func106) ?_
     refine Calls.mono (pW _ _ _ ((Int.natAbs d:Nat):Int) ((g:Nat):Int) (Zn.of u15) (Zn.of (Un.below u7 (Pl.Ex.trans pg (Pl.Ex.trans EG (Pl.Ex.trans uj (Pl.Ex.trans mX (Pl.Ex.trans pK pM))))))) (Sz.le (Sn.sz (Sz.sn ld)) (by omega)) (Sz.le (Sn.sz lg) (by decide)) (by omega) dd _ rfl) ?_
     rintro e w14 ⟨vq,rfl,vO,uk⟩
     obtain ⟨Aq,cq,rfl,uq⟩:=vO
     have Zq:=Pl.Ex.size uk
     have AY:=Pl.Ex.trans Gg uk
     refine ⟨_,rfl,AY,?_⟩
     refine Pl.jB AY rfl ?_
     refine Pl.lI (new:=[.bool (decide ((((Int.natAbs d:Nat):Int)/((g:Nat):Int))<0)),.slice Aq (limbs (Int.natAbs (((Int.natAbs d:Nat):Int)/((g:Nat):Int)))).length cq]) (Pl.Cb.ex yz (Pl.Ex.trans pM uk)) (by kernel_rfl) rfl (by simp [Value.oneCell']) rfl rfl rfl rfl rfl rfl (fun Y hY=>Pl.Ex.xs AY hY (by omega)) ?_
     intro w15 zC VG
     have O0:=Pl.Ex.xs (Pl.Ex.trans pK (Pl.Ex.trans pM uk)) zC (by omega)
     have acL:=Pl.Xs.size zC
     have Su:=Pl.Ex.xs AY zC (by omega)
     refine Pl.jB Su rfl ?_
     refine Pl.aH ?_
     refine Pl.G_V (by kernel_rfl) ?_
     refine Pl.lM [(2,.pointer (some ⟨N1,0,none⟩)),(3,.pointer (some ⟨N2,0,none⟩)),(4,.pointer (some ⟨N3,0,none⟩)),(5,.int .i64 0),(6,.pointer (some ⟨N8,0,none⟩)),(7,.pointer (some ⟨N9,0,none⟩)),(8,.bool true),(9,.pointer (some ⟨N11,0,none⟩)),(10,.bool true)] (Pl.aj rfl (Pl.aj rfl (Pl.aj rfl (Pl.aj rfl (Pl.aj rfl (Pl.aj rfl (Pl.aj rfl (Pl.aj rfl (Pl.aj rfl Pl.dQ))))))))) ?_
     have k16:=Un.xs uq zC (Pl.Cb.ex yz (Pl.Ex.trans pM uk)) (by simp)
     exact KY _ _ ⟨N11,Aq,cq,(Pl.Ex.trans mX O0),VG,(by omega),k16,rfl⟩
end Go.Proofs.YtgcieamfidoaoaaGreatDoor
/- Rationals: sums, products, order, floors. -/
namespace Go.Proofs.YtgcieamfidoaoaaGreatDoor
open Go.RowKit Rf
set_option maxRecDepth 100000
theorem Qn.le {w:World} {v:Value} {q:Rat} {L M K N:Nat} (h:Qn w v q L M) (h1:L≤K) (h2:M≤N):Qn w v q K N:=by
 obtain ⟨A,c,A2,c2,e,u,u2,z,y⟩:=h
 exact ⟨A,c,A2,c2,e,u,u2,z.le h1,y.le h2⟩
theorem VH {p q:Rat} (h1:p.num=q.num) (h2:p.den=q.den):p=q:=Rat.ext h1 h2
theorem Im (w:World) (va vb:Value) (p q:Rat) (L M L2 M2:Nat) (ha:Qn w va p L M) (hb:Qn w vb q L2 M2) (hL:L≤1000000) (hM:M≤1000000) (hL2:L2≤1000000) (hM2:M2≤1000000) :
  Calls Tryz.prog 20 #[va,vb] w fun e w'=>e = .returned (.bool (decide (p=q)))∧Pl.Ex w w':=by
 obtain ⟨Aa,ca,Ba,ba,rfl,ua,ta,za,ya⟩:=ha
 obtain ⟨Ab,cb,Bb,bb,rfl,ub,tb,zb,yb⟩:=hb
 refine Pl.dF (n:=18) (vs:=[.agg #[.bool (decide ((Rat.num p)<0)),.slice Aa (limbs (Int.natAbs (Rat.num p))).length ca,.slice Ba (limbs (Rat.den p)).length ba],.agg #[.bool (decide ((Rat.num q)<0)),.slice Ab (limbs (Int.natAbs (Rat.num q))).length cb,.slice Bb (limbs (Rat.den q)).length bb]]) Tryz.func20 rfl (by kernel_rfl) (by simp) ?_
 refine Pl.aab rfl ?_
 refine Pl.oW (cs:=[.bool (decide ((Rat.num p)<0)),.slice Aa (limbs (Int.natAbs (Rat.num p))).length ca,.slice Ba (limbs (Rat.den p)).length ba]) rfl rfl rfl rfl rfl rfl (fun Y hY=>trivial) ?_
 intro N1 w1 hE1 vM eX
 have DT:=Pl.Cb.lt eX
 have Tx:=Pl.Ex.size hE1
 refine Pl.oW (cs:=[.bool (decide ((Rat.num q)<0)),.slice Ab (limbs (Int.natAbs (Rat.num q))).length cb,.slice Bb (limbs (Rat.den q)).length bb]) rfl rfl rfl rfl rfl rfl (fun Y hY=>trivial) ?_
 intro N2 w2 hE2 zV eO
 have Iw:=Pl.Cb.lt eO
 have UO:=Pl.Ex.size hE2
 refine Pl.jB trivial rfl ?_
 refine Pl.aH ?_
 refine Pl.aab rfl ?_
 refine Pl.mo (.pointer (some ⟨N1,0,none⟩)) trivial rfl rfl rfl rfl (fun X=>by kernel_rfl) ?_
 refine Pl.jA (part:=[.bool (decide ((Rat.num p)<0)),.slice Aa (limbs (Int.natAbs (Rat.num p))).length ca]) (Pl.Cb.ex eX hE2) rfl Tryz.underlying34 rfl (by kernel_rfl) trivial rfl rfl rfl rfl rfl ?_
 refine Pl.mo (.pointer (some ⟨N2,0,none⟩)) trivial rfl rfl rfl rfl (fun X=>by kernel_rfl) ?_
 refine Pl.jA (part:=[.bool (decide ((Rat.num q)<0)),.slice Ab (limbs (Int.natAbs (Rat.num q))).length cb]) eO rfl Tryz.underlying34 rfl (by kernel_rfl) trivial rfl rfl rfl rfl rfl ?_
 by_cases c3:(Rat.num p)=(Rat.num q)
 · refine Pl.bX rfl rfl rfl rfl rfl (Pl.en Tryz.func56) ?_
   refine Calls.mono (Rz _ _ _ (Rat.num p) (Rat.num q) (Zn.of (Un.below ua (Pl.Ex.trans hE1 hE2))) (Zn.of (Un.below ub (Pl.Ex.trans hE1 hE2))) (Sz.le za (by omega)) (Sz.le zb (by omega)) true (decide_eq_true c3)) ?_
   rintro e w3 ⟨rfl,gF⟩
   have UQ:=Pl.Ex.size gF
   refine ⟨_,rfl,trivial,?_⟩
   refine Pl.jB trivial rfl ?_
   refine Pl.mo (.pointer (some ⟨N1,2,none⟩)) trivial rfl rfl rfl rfl (fun X=>by kernel_rfl) ?_
   refine Pl.rQ (v:=.slice Ba (limbs (Rat.den p)).length ba) Tryz.underlying24 rfl (Pl.Cb.at (j:=2) (Pl.Cb.ex eX (Pl.Ex.trans hE2 gF)) rfl) trivial rfl rfl rfl rfl rfl ?_
   refine Pl.mo (.pointer (some ⟨N2,2,none⟩)) trivial rfl rfl rfl rfl (fun X=>by kernel_rfl) ?_
   refine Pl.rQ (v:=.slice Bb (limbs (Rat.den q)).length bb) Tryz.underlying24 rfl (Pl.Cb.at (j:=2) (Pl.Cb.ex eO gF) rfl) trivial rfl rfl rfl rfl rfl ?_
   refine Pl.bX rfl rfl rfl rfl rfl (Pl.en Tryz.func47) ?_
   refine Calls.mono (jk _ _ _ (Rat.den p) (Rat.den q) (Un.below ta (Pl.Ex.trans hE1 (Pl.Ex.trans hE2 gF))) (Un.below tb (Pl.Ex.trans hE1 (Pl.Ex.trans hE2 gF))) (Sn.le ya (by omega)) (Sn.le yb (by omega)) _ rfl) ?_
   rintro e w4 ⟨rfl,kM⟩
   have WC:=Pl.Ex.size kM
   refine ⟨_,rfl,trivial,?_⟩
   by_cases c4:(Rat.den p)=(Rat.den q)
   · refine Pl.Vl (v:=.bool true) (fun X=>Cm.Rn c4 X) trivial rfl rfl rfl rfl rfl rfl ?_
     refine Pl.jB trivial rfl ?_
     refine Pl.aH ?_
     repeat refine Pl.aG ?_
     exact Pl.iV rfl rfl  (⟨by rw [decide_eq_true (VH c3 c4)],(Pl.Ex.trans hE1 (Pl.Ex.trans hE2 (Pl.Ex.trans gF kM)))⟩)
   · refine Pl.Vl (v:=.bool false) (fun X=>Cm.Ro c4 X) trivial rfl rfl rfl rfl rfl rfl ?_
     refine Pl.jB trivial rfl ?_
     refine Pl.aH ?_
     repeat refine Pl.aG ?_
     exact Pl.iV rfl rfl  (⟨by rw [decide_eq_false (fun h9=>c4 (by rw [h9]))],(Pl.Ex.trans hE1 (Pl.Ex.trans hE2 (Pl.Ex.trans gF kM)))⟩)
 · refine Pl.bX rfl rfl rfl rfl rfl (Pl.en Tryz.func56) ?_
   refine Calls.mono (Rz _ _ _ (Rat.num p) (Rat.num q) (Zn.of (Un.below ua (Pl.Ex.trans hE1 hE2))) (Zn.of (Un.below ub (Pl.Ex.trans hE1 hE2))) (Sz.le za (by omega)) (Sz.le zb (by omega)) false (decide_eq_false c3)) ?_
   rintro e w3 ⟨rfl,gF⟩
   have UQ:=Pl.Ex.size gF
   refine ⟨_,rfl,trivial,?_⟩
   refine Pl.jB trivial rfl ?_
   refine Pl.aH ?_
   repeat refine Pl.aG ?_
   exact Pl.iV rfl rfl  (⟨by rw [decide_eq_false (fun h9=>c3 (by rw [h9]))],(Pl.Ex.trans hE1 (Pl.Ex.trans hE2 gF))⟩)
end Go.Proofs.YtgcieamfidoaoaaGreatDoor
