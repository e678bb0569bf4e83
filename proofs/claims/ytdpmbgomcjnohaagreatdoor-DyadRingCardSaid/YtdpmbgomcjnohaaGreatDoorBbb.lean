/- The document's greatest common divisor. -/
import Derived.Test.YtdpmbgomcjnohaaGreatDoorBar
import Derived.Test.YtdpmbgomcjnohaaGreatDoorBba
import Derived.Test.YtdpmbgomcjnohaaGreatDoorBav

namespace Go.Proofs.YtdpmbgomcjnohaaGreatDoor
open Go.RowKit
set_option linter.all false
set_option maxRecDepth 100000
set_option maxHeartbeats 8000000
namespace EQB
set_option linter.all false
set_option maxRecDepth 100000
set_option maxHeartbeats 8000000
theorem alI (u:Array Value) (X:World):(callFunc 129 u).run Tryz.prog X = .ok (.enter 129 u) X:=Pl.enters Tryz.func129 (by kernel_rfl) rfl u X
end EQB
open EQB
theorem XG (x y:Nat):Nat.gcd y (x%y)=Nat.gcd x y:=by rw [Nat.gcd_comm x y,Nat.gcd_rec y x,Nat.gcd_comm]
theorem alJ (w:World) (va vb:Value) (a b g:Nat) (ha:Un w va a) (hb:Un w vb b) (hla:Sn a 100) (hlb:Sn b 100) (hg:Nat.gcd a b=g) :
  Calls Tryz.prog 130 #[va,vb] w fun e w'=>∃ u,e = .returned u∧Un w' u g∧Ext w w':=by
 refine Pl.bL (n:=21) (vs:=[va,vb]) Tryz.func130 rfl (by kernel_rfl) (by simp) ?_
 refine Pl.ay ?_
 refine Pl.aB (by kernel_rfl) ?_
 refine Pl.qU trivial rfl rfl rfl rfl rfl ?_
 refine Pl.af ?_
 refine Pl.ay ?_
 refine Pl.jv [(0,va),(1,vb)] (Pl.aa rfl (Pl.aa rfl Pl.aA)) ?_
 refine Pl.rF ?_
 refine Pl.Da (fun k l' w'=>∃ (x y:Nat) (u v:Value),k=y∧Nat.gcd x y=g∧Sn x 100∧Sn y 100∧Ext w w'∧Un w' u x∧Un w' v y∧l'=[(0,u),(1,v)]) b ⟨a,b,va,vb,rfl,hg,hla,hlb,Ext.refl w,ha,hb,rfl⟩ ?_
 rintro y _ w1 ⟨x,_,u,v,rfl,hgk,hx,hy,hB1,h_u,h_v,rfl⟩
 obtain ⟨A_v,c_v,rfl,-⟩:=Un.sh h_v
 rcases Nat.eq_zero_or_pos y with hy0 | hy0
 · refine Pl.ay ?_
   refine Pl.ay ?_
   refine Pl.aB (by kernel_rfl) ?_
   refine Pl.bN trivial rfl rfl rfl rfl rfl ?_
   refine XD trivial rfl rfl rfl rfl rfl ?_
   refine Pl.xB (v:=(.bool false)) trivial rfl rfl rfl rfl rfl rfl (fun X=>ab9 (decide_eq_false (RP hy0)) X) ?_
   refine Pl.af ?_
   refine Pl.gm rfl ?_
   refine Pl.Db ?_
   refine Pl.ay ?_
   refine Pl.aB (by kernel_rfl) ?_
   refine Pl.bN trivial rfl rfl rfl rfl rfl ?_
   refine Pl.qU trivial rfl rfl rfl rfl rfl ?_
   refine Pl.af ?_
   refine Pl.dU rfl rfl ?_
   exact ⟨_,rfl,by rw [← hgk,hy0,Nat.gcd_zero_right];exact h_u,hB1⟩
 · refine Pl.ay ?_
   refine Pl.ay ?_
   refine Pl.aB (by kernel_rfl) ?_
   refine Pl.bN trivial rfl rfl rfl rfl rfl ?_
   refine XD trivial rfl rfl rfl rfl rfl ?_
   refine Pl.xB (v:=(.bool true)) trivial rfl rfl rfl rfl rfl rfl (fun X=>ab9 (decide_eq_true (aaN hy0)) X) ?_
   refine Pl.af ?_
   refine Pl.iO rfl ?_
   refine Pl.iK ?_
   refine Pl.rF ?_
   refine Pl.ay ?_
   refine Pl.aB (by kernel_rfl) ?_
   refine Pl.bN trivial rfl rfl rfl rfl rfl ?_
   refine Pl.bN trivial rfl rfl rfl rfl rfl ?_
   refine Pl.ah rfl rfl rfl rfl rfl alI ?_
   refine Calls.mono (abT _ _ _ x y _ _ h_u h_v (Sn.le hx (by decide)) (Sn.le hy (by decide)) (Nat.ne_of_gt hy0) rfl rfl) ?_
   rintro e w2 ⟨⟨asQ,alL,rfl,asR,alM⟩,hB2⟩
   refine ⟨_,rfl,trivial,?_⟩
   have asS:Sn (x/y) 100:=Sn.div hx
   have alN:Sn (x%y) 100:=Sn.mod hy (Nat.ne_of_gt hy0)
   refine Pl.bN trivial rfl rfl rfl rfl rfl ?_
   refine Pl.ak trivial rfl rfl rfl rfl rfl rfl ?_
   refine Pl.ak trivial rfl rfl rfl rfl rfl rfl ?_
   refine Pl.ak trivial rfl rfl rfl rfl rfl rfl ?_
   refine Pl.qU trivial rfl rfl rfl rfl rfl ?_
   refine Pl.qU trivial rfl rfl rfl rfl rfl ?_
   refine Pl.qU trivial rfl rfl rfl rfl rfl ?_
   refine Pl.af ?_
   refine Pl.ay ?_
   refine Pl.aB (by kernel_rfl) ?_
   refine Pl.bN trivial rfl rfl rfl rfl rfl ?_
   refine Pl.qU trivial rfl rfl rfl rfl rfl ?_
   refine Pl.af ?_
   refine Pl.aB (by kernel_rfl) ?_
   refine Pl.bN trivial rfl rfl rfl rfl rfl ?_
   refine Pl.qU trivial rfl rfl rfl rfl rfl ?_
   refine Pl.af ?_
   refine Pl.uu ?_
   have aeo:=Un.below h_v hB2
   exact Pl.zX [(0,.slice A_v (limbs y).length c_v),(1,alL)] (Pl.aa rfl (Pl.aa rfl Pl.aA)) (Nat.mod_lt x hy0) ⟨y,x%y,_,_,rfl,(XG x y).trans hgk,hy,alN,(Ext.below hB1 hB2),aeo,alM,rfl⟩
end Go.Proofs.YtdpmbgomcjnohaaGreatDoor
/- Rationals in lowest terms. -/
namespace Go.Proofs.YtdpmbgomcjnohaaGreatDoor
open Go.RowKit 
set_option linter.all false
set_option maxRecDepth 100000
set_option maxHeartbeats 8000000
theorem aeC {w:World} {A:Option Addr} {c L n:Nat} (h:Un w (.slice A L c) n):Zn w (.agg #[.bool false,.slice A L c]) (n:Int):=by
 obtain rfl:L=_:=h.len
 refine ⟨A,c,?_,h⟩
 rw [show decide (((n:Nat):Int)<0)=false from decide_eq_false (by omega)];rfl
theorem fF (w:World) (va:Value) (a:Nat) (ha:Un w va a) :
  Calls Tryz.prog 84 #[va] w fun e w'=>∃ u,e = .returned u∧Zn w' u ((a:Nat):Int)∧Pl.Ex w w':=by
 refine Pl.bL (n:=5) (vs:=[va]) Tryz.func84 rfl (by kernel_rfl) (by simp) ?_
 repeat refine Pl.ay ?_
 refine Pl.aB (by kernel_rfl) ?_
 refine Pl.aU (z:=.agg #[.bool false,.slice none 0 0]) (by kernel_rfl) rfl rfl rfl rfl (fun Y hY=>trivial) ?_
 intro N1 w1 hE1 eP aC
 have ig:=Pl.Cb.lt aC
 have mH:=Pl.Ex.size hE1
 replace aC:Pl.Cb w1 N1 24 [.bool false,.slice none 0 0]:=aC
 refine Pl.af ?_
 repeat refine Pl.ay ?_
 refine Pl.aB (by kernel_rfl) ?_
 refine Pl.aG trivial rfl ?_
 obtain ⟨A2,c3,rfl⟩:=Un.sh8 (Un.below ha hE1)
 refine Pl.bC (.agg #[.bool false,(.slice A2 (limbs a).length c3)]) trivial rfl rfl rfl rfl (fun X=>by kernel_rfl) ?_
 refine Pl.bg (new:=[.bool false,(.slice A2 (limbs a).length c3)]) aC (by kernel_rfl) rfl (by simp [Value.oneCell']) rfl rfl rfl rfl rfl rfl (fun Y hY=>trivial) ?_
 intro w2 hX2 lF
 have hE2:=Pl.Ex.xs hE1 hX2 (by omega)
 have mY:=Pl.Xs.size hX2
 refine Pl.af ?_
 repeat refine Pl.ay ?_
 exact Pl.cO rfl rfl lF Tryz.underlying24 rfl (by kernel_rfl) (⟨_,rfl,aeC (Un.below ha hE2),hE2⟩)
theorem Sn.ach {z:Int} {K:Nat} (h:Sz z K):Sn z.natAbs K:=h
theorem mk_pos {n d:Int} {g:Nat} (h0:d≠0) (hg:Nat.gcd n.natAbs d.natAbs=g) (h:¬ d<0):(Rat.divInt n d).num=n/(g:Int)∧(Rat.divInt n d).den=(((d.natAbs:Nat):Int)/(g:Int)).natAbs:=by
 subst hg
 refine ⟨by rw [Rq.XR h0,if_neg h],by rw [Rq.XT h0];rfl⟩
theorem X7 {n d:Int} {g:Nat} (h0:d≠0) (hg:Nat.gcd n.natAbs d.natAbs=g) (h:d<0):(Rat.divInt n d).num = -(n/(g:Int))∧(Rat.divInt n d).den=(((d.natAbs:Nat):Int)/(g:Int)).natAbs:=by
 subst hg
 refine ⟨by rw [Rq.XR h0,if_pos h],by rw [Rq.XT h0];rfl⟩
theorem oH (w:World) (vn vd:Value) (n d:Int) (hn:Zn w vn n) (hd:Zn w vd d) (L M:Nat) (ln:Sz n L) (ld:Sz d M) (hL:L≤100) (hM:M≤100) (hd0:d≠0) :
  Calls Tryz.prog 97 #[vn,vd] w fun e w'=>∃ u,e = .returned (.tuple #[u,.int .i64 0])∧Qn w' u (Rat.divInt n d) L M∧Pl.Ex w w':=by
 obtain ⟨An,cn,rfl,un⟩:=hn
 obtain ⟨Ad,cd,rfl,ud⟩:=hd
 obtain ⟨g,hgg⟩:∃ g,Nat.gcd n.natAbs d.natAbs=g:=⟨_,rfl⟩
 have hg0:g≠0:=by rw [← hgg];exact fun h=>hd0 (Int.natAbs_eq_zero.1 (Nat.eq_zero_of_gcd_eq_zero_right h))
 have lg:Sn g 100:=by rw [← hgg];exact Sn.down (n:=d.natAbs) (Sn.le ld (by omega)) (Nat.gcd_le_right _ (by omega))
 have dn:n%(g:Int)=0:=by rw [← hgg];exact Int.emod_eq_zero_of_dvd (Int.dvd_natAbs.1 (Int.natCast_dvd_natCast.2 (Nat.gcd_dvd_left _ _)))
 have dd:((d.natAbs:Nat):Int)%(g:Int)=0:=by rw [← hgg];exact Int.emod_eq_zero_of_dvd (Int.natCast_dvd_natCast.2 (Nat.gcd_dvd_right _ _))
 refine Pl.bL (n:=44) (vs:=[.agg #[.bool (decide (n<0)),.slice An (limbs (Int.natAbs n)).length cn],.agg #[.bool (decide (d<0)),.slice Ad (limbs (Int.natAbs d)).length cd]]) Tryz.func97 rfl (by kernel_rfl) (by simp) ?_
 repeat refine Pl.ay ?_
 refine Pl.aB (by kernel_rfl) ?_
 refine Pl.dN (cs:=[.bool (decide (n<0)),.slice An (limbs (Int.natAbs n)).length cn]) rfl rfl rfl rfl rfl rfl (fun Y hY=>trivial) ?_
 intro N1 w1 hE1 eP aC
 have ig:=Pl.Cb.lt aC
 have mH:=Pl.Ex.size hE1
 refine Pl.dN (cs:=[.bool (decide (d<0)),.slice Ad (limbs (Int.natAbs d)).length cd]) rfl rfl rfl rfl rfl rfl (fun Y hY=>trivial) ?_
 intro N2 w2 hE2 gD aD
 have iB:=Pl.Cb.lt aD
 have mY:=Pl.Ex.size hE2
 refine Pl.aU (z:=.agg #[.bool false,.slice none 0 0,.slice none 0 0]) (by kernel_rfl) rfl rfl rfl rfl (fun Y hY=>trivial) ?_
 intro N3 w3 aO jP aL
 have iJ:=Pl.Cb.lt aL
 have mZ:=Pl.Ex.size aO
 replace aL:Pl.Cb w3 N3 41 [.bool false,.slice none 0 0,.slice none 0 0]:=aL
 refine Pl.aG trivial rfl ?_
 refine Pl.af ?_
 repeat refine Pl.ay ?_
 refine Pl.aB (by kernel_rfl) ?_
 refine Pl.bC (.pointer (some ⟨N2,1,none⟩)) trivial rfl rfl rfl rfl (fun X=>by kernel_rfl) ?_
 refine Pl.eT (v:=.slice Ad (limbs (Int.natAbs d)).length cd) Tryz.underlying22 rfl (Pl.Cb.at (j:=1) (Pl.Cb.ex aD aO) rfl) trivial rfl rfl rfl rfl rfl ?_
 refine Pl.yG Tryz.underlying22 trivial rfl rfl rfl rfl rfl ?_
 have ao4:¬ (((limbs (Int.natAbs d)).length)=0):=(fun h9=>hd0 (Int.natAbs_eq_zero.1 (oO.1 h9)))
 refine Pl.dO (v:=.bool false) (fun X=>Pl.gM (Pl.e_f (by omega)) X) trivial rfl rfl rfl rfl rfl rfl ?_
 refine Pl.af ?_
 repeat refine Pl.ay ?_
 refine Pl.gm rfl ?_
 repeat refine Pl.ay ?_
 refine Pl.iK ?_
 repeat refine Pl.ay ?_
 refine Pl.aB (by kernel_rfl) ?_
 refine Pl.bC (.pointer (some ⟨N1,1,none⟩)) trivial rfl rfl rfl rfl (fun X=>by kernel_rfl) ?_
 refine Pl.eT (v:=.slice An (limbs (Int.natAbs n)).length cn) Tryz.underlying22 rfl (Pl.Cb.at (j:=1) (Pl.Cb.ex aC (Pl.Ex.trans hE2 aO)) rfl) trivial rfl rfl rfl rfl rfl ?_
 refine Pl.bC (.pointer (some ⟨N2,1,none⟩)) trivial rfl rfl rfl rfl (fun X=>by kernel_rfl) ?_
 refine Pl.eT (v:=.slice Ad (limbs (Int.natAbs d)).length cd) Tryz.underlying22 rfl (Pl.Cb.at (j:=1) (Pl.Cb.ex aD aO) rfl) trivial rfl rfl rfl rfl rfl ?_
 refine Pl.ah rfl rfl rfl rfl rfl (fun u X=>Pl.enters Tryz.func130 (by kernel_rfl) rfl u X) ?_
 refine Calls.mono (alJ _ _ _ (Int.natAbs n) (Int.natAbs d) g (Un.below un (Pl.Ex.trans hE1 (Pl.Ex.trans hE2 aO))) (Un.below ud (Pl.Ex.trans hE1 (Pl.Ex.trans hE2 aO))) (Sn.le ln (by omega)) (Sn.le ld (by omega)) hgg) ?_
 rintro e w4 ⟨vg,rfl,hvg,aR⟩
 have l9:=Pl.Ex.size aR
 refine ⟨_,rfl,trivial,?_⟩
 refine Pl.ah rfl rfl rfl rfl rfl (fun u X=>Pl.enters Tryz.func84 (by kernel_rfl) rfl u X) ?_
 refine Calls.mono (fF _ _ g hvg) ?_
 rintro e w5 ⟨v4,rfl,hv4,aP⟩
 obtain ⟨A5,c6,rfl,u7⟩:=hv4
 have jY:=Pl.Ex.size aP
 refine ⟨_,rfl,trivial,?_⟩
 refine Pl.aU (z:=.agg #[.bool false,.slice none 0 0]) (by kernel_rfl) rfl rfl rfl rfl (fun Y hY=>trivial) ?_
 intro N8 w6 aM Mm kH
 have mG:=Pl.Cb.lt kH
 have jr:=Pl.Ex.size aM
 replace kH:Pl.Cb w6 N8 24 [.bool false,.slice none 0 0]:=kH
 refine Pl.bg (new:=[.bool (decide (((g:Nat):Int)<0)),.slice A5 (limbs (Int.natAbs ((g:Nat):Int))).length c6]) kH (by kernel_rfl) rfl (by simp [Value.oneCell']) rfl rfl rfl rfl rfl rfl (fun Y hY=>trivial) ?_
 intro w7 gP AO
 have aH:=Pl.Ex.xs aM gP (by omega)
 have iU:=Pl.Xs.size gP
 refine Pl.af ?_
 repeat refine Pl.ay ?_
 refine Pl.aB (by kernel_rfl) ?_
 refine Pl.dJ (part:=[.bool (decide (n<0)),.slice An (limbs (Int.natAbs n)).length cn]) (Pl.Cb.ex aC (Pl.Ex.trans hE2 (Pl.Ex.trans aO (Pl.Ex.trans aR (Pl.Ex.trans aP aH))))) rfl Tryz.underlying24 rfl (by kernel_rfl) trivial rfl rfl rfl rfl rfl ?_
 refine Pl.dJ (part:=[.bool (decide (((g:Nat):Int)<0)),.slice A5 (limbs (Int.natAbs ((g:Nat):Int))).length c6]) AO rfl Tryz.underlying24 rfl (by kernel_rfl) trivial rfl rfl rfl rfl rfl ?_
 refine Pl.ah rfl rfl rfl rfl rfl (fun u X=>Pl.enters Tryz.func131 (by kernel_rfl) rfl u X) ?_
 refine Calls.mono (Ao _ _ _ n ((g:Nat):Int) (Zn.of (Un.below un (Pl.Ex.trans hE1 (Pl.Ex.trans hE2 (Pl.Ex.trans aO (Pl.Ex.trans aR (Pl.Ex.trans aP aH))))))) (Zn.of (Un.below u7 aH)) (Sz.le ln (by omega)) (Sz.le (Sn.sz lg) (by decide)) (by omega) dn _ rfl) ?_
 rintro e w8 ⟨vp,rfl,hvp,bu⟩
 obtain ⟨Ap,cp,rfl,up⟩:=hvp
 have mh:=Pl.Ex.size bu
 refine ⟨_,rfl,trivial,?_⟩
 refine Pl.aG trivial rfl ?_
 refine Pl.aU (z:=.agg #[.bool false,.slice none 0 0]) (by kernel_rfl) rfl rfl rfl rfl (fun Y hY=>trivial) ?_
 intro N9 w9 dh TD oQ
 have ym:=Pl.Cb.lt oQ
 have pG:=Pl.Ex.size dh
 replace oQ:Pl.Cb w9 N9 24 [.bool false,.slice none 0 0]:=oQ
 refine Pl.bg (new:=[.bool (decide ((n/((g:Nat):Int))<0)),.slice Ap (limbs (Int.natAbs (n/((g:Nat):Int)))).length cp]) oQ (by kernel_rfl) rfl (by simp [Value.oneCell']) rfl rfl rfl rfl rfl rfl (fun Y hY=>trivial) ?_
 intro qD eU vB
 have bf:=Pl.Ex.xs dh eU (by omega)
 have mD:=Pl.Xs.size eU
 refine Pl.aG trivial rfl ?_
 refine Pl.af ?_
 repeat refine Pl.ay ?_
 refine Pl.Cg (fun l' w'=>∃ (Nq:Nat) (Aq:Option Addr) (cq:Nat),Pl.Ex qD w'∧(Pl.Cb w' Nq 24 [.bool (decide ((((Int.natAbs d:Nat):Int)/((g:Nat):Int))<0)),.slice Aq (limbs (Int.natAbs (((Int.natAbs d:Nat):Int)/((g:Nat):Int)))).length cq])∧(qD.heap.size≤Nq)∧(Un w' (.slice Aq (limbs (Int.natAbs (((Int.natAbs d:Nat):Int)/((g:Nat):Int)))).length cq) (Int.natAbs (((Int.natAbs d:Nat):Int)/((g:Nat):Int))))∧l'=[(2,.pointer (some ⟨N1,0,none⟩)),(3,.pointer (some ⟨N2,0,none⟩)),(4,.pointer (some ⟨N3,0,none⟩)),(5,.int .i64 0),(6,.pointer (some ⟨N8,0,none⟩)),(7,.pointer (some ⟨N9,0,none⟩)),(8,.bool true),(9,.pointer (some ⟨Nq,0,none⟩)),(10,.bool true)]) ?_ fun R6=>?_
 · rintro _ uV ⟨Nq,Aq,cq,bI,kNq,hNq,uq,rfl⟩
   have qx:=Pl.Ex.size bI
   repeat refine Pl.ay ?_
   refine Pl.aB (by kernel_rfl) ?_
   refine Pl.bC (.pointer (some ⟨N2,0,none⟩)) trivial rfl rfl rfl rfl (fun X=>by kernel_rfl) ?_
   by_cases c11:d<0
   · have hneg:=c11
     refine Pl.eT (v:=.bool true) Tryz.underlying4 rfl ((by have h9:=(Pl.Cb.at (j:=0) (Pl.Cb.ex aD (Pl.Ex.trans aO (Pl.Ex.trans aR (Pl.Ex.trans aP (Pl.Ex.trans aH (Pl.Ex.trans bu (Pl.Ex.trans bf bI))))))) rfl);rw [decide_eq_true hneg] at h9;exact h9)) trivial rfl rfl rfl rfl rfl ?_
     refine Pl.af ?_
     repeat refine Pl.ay ?_
     refine Pl.iO rfl ?_
     repeat refine Pl.ay ?_
     refine Pl.aB (by kernel_rfl) ?_
     refine Pl.dJ (part:=[.bool (decide ((n/((g:Nat):Int))<0)),.slice Ap (limbs (Int.natAbs (n/((g:Nat):Int)))).length cp]) (Pl.Cb.ex vB bI) rfl Tryz.underlying24 rfl (by kernel_rfl) trivial rfl rfl rfl rfl rfl ?_
     refine Pl.ah rfl rfl rfl rfl rfl (fun u X=>Pl.enters Tryz.func72 (by kernel_rfl) rfl u X) ?_
     refine Calls.mono (Mk _ _ _ (Zn.of (Un.below up (Pl.Ex.trans bf bI))) (Sz.le (Sz.div ln) (by omega)) _ rfl) ?_
     rintro e yu ⟨vm,rfl,hvm,bY⟩
     obtain ⟨Am,cm,rfl,um⟩:=hvm
     have qQ:=Pl.Ex.size bY
     refine ⟨_,rfl,trivial,?_⟩
     refine Pl.bg (new:=[.bool (decide ((-(n/((g:Nat):Int)))<0)),.slice Am (limbs (Int.natAbs (-(n/((g:Nat):Int))))).length cm]) (Pl.Cb.ex vB (Pl.Ex.trans bI bY)) (by kernel_rfl) rfl (by simp [Value.oneCell']) rfl rfl rfl rfl rfl rfl (fun Y hY=>trivial) ?_
     intro yM gV Ch
     have bM:=Pl.Ex.xs (Pl.Ex.trans bf (Pl.Ex.trans bI bY)) gV (by omega)
     have rE:=Pl.Xs.size gV
     have M9:=Pl.Cb.xs (Pl.Cb.ex kNq bY) gV (by simp;omega)
     refine Pl.af ?_
     repeat refine Pl.ay ?_
     refine Pl.aB (by kernel_rfl) ?_
     refine Pl.dJ (part:=[.bool (decide ((-(n/((g:Nat):Int)))<0)),.slice Am (limbs (Int.natAbs (-(n/((g:Nat):Int))))).length cm]) Ch rfl Tryz.underlying24 rfl (by kernel_rfl) trivial rfl rfl rfl rfl rfl ?_
     refine Pl.bC (.pointer (some ⟨Nq,1,none⟩)) trivial rfl rfl rfl rfl (fun X=>by kernel_rfl) ?_
     refine Pl.eT (v:=.slice Aq (limbs (Int.natAbs (((Int.natAbs d:Nat):Int)/((g:Nat):Int)))).length cq) Tryz.underlying22 rfl (Pl.Cb.at (j:=1) M9 rfl) trivial rfl rfl rfl rfl rfl ?_
     refine Pl.bC (.agg #[.bool (decide ((-(n/((g:Nat):Int)))<0)),.slice Am (limbs (Int.natAbs (-(n/((g:Nat):Int))))).length cm,.slice Aq (limbs (Int.natAbs (((Int.natAbs d:Nat):Int)/((g:Nat):Int)))).length cq]) trivial rfl rfl rfl rfl (fun X=>by kernel_rfl) ?_
     refine Pl.bg (new:=[.bool (decide ((-(n/((g:Nat):Int)))<0)),.slice Am (limbs (Int.natAbs (-(n/((g:Nat):Int))))).length cm,.slice Aq (limbs (Int.natAbs (((Int.natAbs d:Nat):Int)/((g:Nat):Int)))).length cq]) (Pl.Cb.ex aL (Pl.Ex.trans aR (Pl.Ex.trans aP (Pl.Ex.trans aH (Pl.Ex.trans bu bM))))) (by kernel_rfl) rfl (by simp [Value.oneCell']) rfl rfl rfl rfl rfl rfl (fun Y hY=>trivial) ?_
     intro FV vG dX
     have ed:=Pl.Ex.xs (Pl.Ex.trans aO (Pl.Ex.trans aR (Pl.Ex.trans aP (Pl.Ex.trans aH (Pl.Ex.trans bu bM))))) vG (by omega)
     have zK:=Pl.Xs.size vG
     have KC:=Pl.Cb.xs (Pl.Cb.ex AO (Pl.Ex.trans bu bM)) vG (by simp;omega)
     have alV:=Pl.Cb.xs Ch vG (by simp;omega)
     have alW:=Pl.Cb.xs M9 vG (by simp;omega)
     refine Pl.aG trivial rfl ?_
     refine Pl.af ?_
     have k12:=Un.xs um gV (Pl.Cb.ex vB (Pl.Ex.trans bI bY)) (by simp)
     have k13:=Un.xs k12 vG (Pl.Cb.ex aL (Pl.Ex.trans aR (Pl.Ex.trans aP (Pl.Ex.trans aH (Pl.Ex.trans bu bM))))) (by simp)
     have k14:=Un.xs (Un.below uq bY) gV (Pl.Cb.ex vB (Pl.Ex.trans bI bY)) (by simp)
     have k15:=Un.xs k14 vG (Pl.Cb.ex aL (Pl.Ex.trans aR (Pl.Ex.trans aP (Pl.Ex.trans aH (Pl.Ex.trans bu bM))))) (by simp)
     repeat refine Pl.ay ?_
     exact Pl.nQ rfl rfl rfl dX Tryz.underlying41 rfl (by kernel_rfl) (⟨_,rfl,Qn.of (X7 hd0 hgg hneg).1 (X7 hd0 hgg hneg).2 k13 k15 (Sz.neg (Sz.div ln)) (Sn.ach (Sz.div (Sn.sz (Sz.sn ld)))),(Pl.Ex.trans hE1 (Pl.Ex.trans hE2 ed))⟩)
   · have hneg:=c11
     refine Pl.eT (v:=.bool false) Tryz.underlying4 rfl ((by have h9:=(Pl.Cb.at (j:=0) (Pl.Cb.ex aD (Pl.Ex.trans aO (Pl.Ex.trans aR (Pl.Ex.trans aP (Pl.Ex.trans aH (Pl.Ex.trans bu (Pl.Ex.trans bf bI))))))) rfl);rw [decide_eq_false hneg] at h9;exact h9)) trivial rfl rfl rfl rfl rfl ?_
     refine Pl.af ?_
     repeat refine Pl.ay ?_
     refine Pl.gm rfl ?_
     repeat refine Pl.ay ?_
     refine Pl.iK ?_
     repeat refine Pl.ay ?_
     refine Pl.aB (by kernel_rfl) ?_
     refine Pl.dJ (part:=[.bool (decide ((n/((g:Nat):Int))<0)),.slice Ap (limbs (Int.natAbs (n/((g:Nat):Int)))).length cp]) (Pl.Cb.ex vB bI) rfl Tryz.underlying24 rfl (by kernel_rfl) trivial rfl rfl rfl rfl rfl ?_
     refine Pl.bC (.pointer (some ⟨Nq,1,none⟩)) trivial rfl rfl rfl rfl (fun X=>by kernel_rfl) ?_
     refine Pl.eT (v:=.slice Aq (limbs (Int.natAbs (((Int.natAbs d:Nat):Int)/((g:Nat):Int)))).length cq) Tryz.underlying22 rfl (Pl.Cb.at (j:=1) kNq rfl) trivial rfl rfl rfl rfl rfl ?_
     refine Pl.bC (.agg #[.bool (decide ((n/((g:Nat):Int))<0)),.slice Ap (limbs (Int.natAbs (n/((g:Nat):Int)))).length cp,.slice Aq (limbs (Int.natAbs (((Int.natAbs d:Nat):Int)/((g:Nat):Int)))).length cq]) trivial rfl rfl rfl rfl (fun X=>by kernel_rfl) ?_
     refine Pl.bg (new:=[.bool (decide ((n/((g:Nat):Int))<0)),.slice Ap (limbs (Int.natAbs (n/((g:Nat):Int)))).length cp,.slice Aq (limbs (Int.natAbs (((Int.natAbs d:Nat):Int)/((g:Nat):Int)))).length cq]) (Pl.Cb.ex aL (Pl.Ex.trans aR (Pl.Ex.trans aP (Pl.Ex.trans aH (Pl.Ex.trans bu (Pl.Ex.trans bf bI)))))) (by kernel_rfl) rfl (by simp [Value.oneCell']) rfl rfl rfl rfl rfl rfl (fun Y hY=>trivial) ?_
     intro yu fD dX
     have bY:=Pl.Ex.xs (Pl.Ex.trans aO (Pl.Ex.trans aR (Pl.Ex.trans aP (Pl.Ex.trans aH (Pl.Ex.trans bu (Pl.Ex.trans bf bI)))))) fD (by omega)
     have qQ:=Pl.Xs.size fD
     have KC:=Pl.Cb.xs (Pl.Cb.ex AO (Pl.Ex.trans bu (Pl.Ex.trans bf bI))) fD (by simp;omega)
     have Ch:=Pl.Cb.xs (Pl.Cb.ex vB bI) fD (by simp;omega)
     have M9:=Pl.Cb.xs kNq fD (by simp;omega)
     refine Pl.aG trivial rfl ?_
     refine Pl.af ?_
     have k12:=Un.xs (Un.below up (Pl.Ex.trans bf bI)) fD (Pl.Cb.ex aL (Pl.Ex.trans aR (Pl.Ex.trans aP (Pl.Ex.trans aH (Pl.Ex.trans bu (Pl.Ex.trans bf bI)))))) (by simp)
     have k13:=Un.xs uq fD (Pl.Cb.ex aL (Pl.Ex.trans aR (Pl.Ex.trans aP (Pl.Ex.trans aH (Pl.Ex.trans bu (Pl.Ex.trans bf bI)))))) (by simp)
     repeat refine Pl.ay ?_
     exact Pl.nQ rfl rfl rfl dX Tryz.underlying41 rfl (by kernel_rfl) (⟨_,rfl,Qn.of (mk_pos hd0 hgg hneg).1 (mk_pos hd0 hgg hneg).2 k12 k13 (Sz.div ln) (Sn.ach (Sz.div (Sn.sz (Sz.sn ld)))),(Pl.Ex.trans hE1 (Pl.Ex.trans hE2 bY))⟩)
 · repeat refine Pl.ay ?_
   refine Pl.nG (S:=fun X=>Pl.Ex qD X) fo (Pl.Ex.trans (Pl.Ex.refl _) (Pl.Ex.drew _)) ?_
   have bI:=Pl.Ex.drew qD
   generalize qD.drew=uV at *
   have qx:=Pl.Ex.size bI
   intro iT
   refine Pl.aZ [(true,0,0),(true,1,1),(true,3,3)] 11 8 Pl.az (by kernel_rfl) (by kernel_rfl) (by kernel_rfl) ?_
   refine Pl.bC (.pointer (some ⟨N2,1,none⟩)) iT rfl rfl rfl rfl (fun X=>by kernel_rfl) ?_
   refine Pl.iE (v:=.slice Ad (limbs (Int.natAbs d)).length cd) Tryz.underlying22 rfl (fun X hX=>Pl.Cb.at (j:=1) (Pl.Cb.ex (Pl.Cb.ex aD (Pl.Ex.trans aO (Pl.Ex.trans aR (Pl.Ex.trans aP (Pl.Ex.trans aH (Pl.Ex.trans bu bf)))))) hX) rfl) iT rfl rfl rfl rfl rfl ?_
   refine Pl.bT (part:=[.bool (decide (((g:Nat):Int)<0)),.slice A5 (limbs (Int.natAbs ((g:Nat):Int))).length c6]) (fun X hX=>Pl.Cb.ex (Pl.Cb.ex AO (Pl.Ex.trans bu bf)) hX) rfl Tryz.underlying24 rfl (by kernel_rfl) iT rfl rfl rfl rfl rfl ?_
   refine Pl.af ?_
   refine Pl.cB [2,8] 7 (by kernel_rfl) (by kernel_rfl) (by kernel_rfl) (Pl.aj ?_ (Pl.aj ?_ Pl.aJ))
   · refine Pl.ah rfl rfl rfl rfl rfl (fun u X=>Pl.enters Tryz.func84 (by kernel_rfl) rfl u X) ?_
     refine Calls.mono (fF _ _ (Int.natAbs d) (Un.below ud (Pl.Ex.trans hE1 (Pl.Ex.trans hE2 (Pl.Ex.trans aO (Pl.Ex.trans aR (Pl.Ex.trans aP (Pl.Ex.trans aH (Pl.Ex.trans bu (Pl.Ex.trans bf bI)))))))))) ?_
     rintro e yu ⟨v11,rfl,kL,bY⟩
     obtain ⟨CK,c13,rfl,JF⟩:=kL
     have qQ:=Pl.Ex.size bY
     have jl:=Pl.Ex.trans iT bY
     refine ⟨_,rfl,jl,?_⟩
     refine Pl.af ?_
     refine Pl.cB [4,8] 6 (by kernel_rfl) (by kernel_rfl) (by kernel_rfl) (Pl.aj ?_ (Pl.aj ?_ Pl.aJ))
     · refine Pl.ah rfl rfl rfl rfl rfl (fun u X=>Pl.enters Tryz.func131 (by kernel_rfl) rfl u X) ?_
       refine Calls.mono (Ao _ _ _ ((Int.natAbs d:Nat):Int) ((g:Nat):Int) (Zn.of JF) (Zn.of (Un.below u7 (Pl.Ex.trans aH (Pl.Ex.trans bu (Pl.Ex.trans bf (Pl.Ex.trans bI bY)))))) (Sz.le (Sn.sz (Sz.sn ld)) (by omega)) (Sz.le (Sn.sz lg) (by decide)) (by omega) dd _ rfl) ?_
       rintro e yM ⟨vq,rfl,zJ,bM⟩
       obtain ⟨Aq,cq,rfl,uq⟩:=zJ
       have rE:=Pl.Ex.size bM
       have lV:=Pl.Ex.trans jl bM
       refine ⟨_,rfl,lV,?_⟩
       refine Pl.af ?_
       refine Pl.aZ [(true,5,31),(true,6,63),(true,7,127),(false,8,255),(false,9,511),(true,10,1023)] 2047 0 Pl.az (by kernel_rfl) (by kernel_rfl) (by kernel_rfl) ?_
       refine Pl.aG lV rfl ?_
       refine Pl.aU (z:=.agg #[.bool false,.slice none 0 0]) (by kernel_rfl) rfl rfl rfl rfl (fun Y hY=>Pl.Ex.trans lV hY) ?_
       intro QV FV ed KE lC
       have O0:=Pl.Cb.lt lC
       have zK:=Pl.Ex.size ed
       replace lC:Pl.Cb FV QV 24 [.bool false,.slice none 0 0]:=lC
       have nU:=Pl.Ex.trans lV ed
       refine Pl.bg (new:=[.bool (decide ((((Int.natAbs d:Nat):Int)/((g:Nat):Int))<0)),.slice Aq (limbs (Int.natAbs (((Int.natAbs d:Nat):Int)/((g:Nat):Int)))).length cq]) lC (by kernel_rfl) rfl (by simp [Value.oneCell']) rfl rfl rfl rfl rfl rfl (fun Y hY=>Pl.Ex.xs nU hY (by omega)) ?_
       intro IA pM sO
       have dK:=Pl.Ex.xs ed pM (by omega)
       have Cz:=Pl.Xs.size pM
       have uM:=Pl.Ex.xs nU pM (by omega)
       refine Pl.aG uM rfl ?_
       refine Pl.af ?_
       refine Pl.tK (by kernel_rfl) ?_
       refine Pl.jv [(2,.pointer (some ⟨N1,0,none⟩)),(3,.pointer (some ⟨N2,0,none⟩)),(4,.pointer (some ⟨N3,0,none⟩)),(5,.int .i64 0),(6,.pointer (some ⟨N8,0,none⟩)),(7,.pointer (some ⟨N9,0,none⟩)),(8,.bool true),(9,.pointer (some ⟨QV,0,none⟩)),(10,.bool true)] (Pl.aa rfl (Pl.aa rfl (Pl.aa rfl (Pl.aa rfl (Pl.aa rfl (Pl.aa rfl (Pl.aa rfl (Pl.aa rfl (Pl.aa rfl Pl.aA))))))))) ?_
       exact R6 _ _ ⟨QV,Aq,cq,(Pl.Ex.trans bI (Pl.Ex.trans bY (Pl.Ex.trans bM dK))),sO,(by omega),(Un.below uq dK),rfl⟩
     · refine Pl.aU (z:=.agg #[.bool false,.slice none 0 0]) (by kernel_rfl) rfl rfl rfl rfl (fun Y hY=>Pl.Ex.trans jl hY) ?_
       intro QV yM bM KE lC
       have O0:=Pl.Cb.lt lC
       have rE:=Pl.Ex.size bM
       replace lC:Pl.Cb yM QV 24 [.bool false,.slice none 0 0]:=lC
       have lV:=Pl.Ex.trans jl bM
       refine Pl.af ?_
       refine Pl.aZ [(false,4,271),(true,5,287),(true,6,319),(true,7,383),(false,9,511),(true,10,1023)] 2047 0 Pl.az (by kernel_rfl) (by kernel_rfl) (by kernel_rfl) ?_
       refine Pl.ah rfl rfl rfl rfl rfl (fun u X=>Pl.enters Tryz.func131 (by kernel_rfl) rfl u X) ?_
       refine Calls.mono (Ao _ _ _ ((Int.natAbs d:Nat):Int) ((g:Nat):Int) (Zn.of (Un.below JF bM)) (Zn.of (Un.below u7 (Pl.Ex.trans aH (Pl.Ex.trans bu (Pl.Ex.trans bf (Pl.Ex.trans bI (Pl.Ex.trans bY bM))))))) (Sz.le (Sn.sz (Sz.sn ld)) (by omega)) (Sz.le (Sn.sz lg) (by decide)) (by omega) dd _ rfl) ?_
       rintro e FV ⟨vq,rfl,zJ,ed⟩
       obtain ⟨Aq,cq,rfl,uq⟩:=zJ
       have zK:=Pl.Ex.size ed
       have nU:=Pl.Ex.trans lV ed
       refine ⟨_,rfl,nU,?_⟩
       refine Pl.aG nU rfl ?_
       refine Pl.bg (new:=[.bool (decide ((((Int.natAbs d:Nat):Int)/((g:Nat):Int))<0)),.slice Aq (limbs (Int.natAbs (((Int.natAbs d:Nat):Int)/((g:Nat):Int)))).length cq]) (Pl.Cb.ex lC ed) (by kernel_rfl) rfl (by simp [Value.oneCell']) rfl rfl rfl rfl rfl rfl (fun Y hY=>Pl.Ex.xs nU hY (by omega)) ?_
       intro IA pM sO
       have dK:=Pl.Ex.xs (Pl.Ex.trans bM ed) pM (by omega)
       have Cz:=Pl.Xs.size pM
       have uM:=Pl.Ex.xs nU pM (by omega)
       refine Pl.aG uM rfl ?_
       refine Pl.af ?_
       refine Pl.tK (by kernel_rfl) ?_
       refine Pl.jv [(2,.pointer (some ⟨N1,0,none⟩)),(3,.pointer (some ⟨N2,0,none⟩)),(4,.pointer (some ⟨N3,0,none⟩)),(5,.int .i64 0),(6,.pointer (some ⟨N8,0,none⟩)),(7,.pointer (some ⟨N9,0,none⟩)),(8,.bool true),(9,.pointer (some ⟨QV,0,none⟩)),(10,.bool true)] (Pl.aa rfl (Pl.aa rfl (Pl.aa rfl (Pl.aa rfl (Pl.aa rfl (Pl.aa rfl (Pl.aa rfl (Pl.aa rfl (Pl.aa rfl Pl.aA))))))))) ?_
       have k16:=Un.xs uq pM (Pl.Cb.ex lC ed) (by simp)
       exact R6 _ _ ⟨QV,Aq,cq,(Pl.Ex.trans bI (Pl.Ex.trans bY dK)),sO,(by omega),k16,rfl⟩
   · refine Pl.aU (z:=.agg #[.bool false,.slice none 0 0]) (by kernel_rfl) rfl rfl rfl rfl (fun Y hY=>Pl.Ex.trans iT hY) ?_
     intro mo yu bY AL gL
     have gp:=Pl.Cb.lt gL
     have qQ:=Pl.Ex.size bY
     replace gL:Pl.Cb yu mo 24 [.bool false,.slice none 0 0]:=gL
     have jl:=Pl.Ex.trans iT bY
     refine Pl.af ?_
     refine Pl.aZ [(false,2,267),(false,4,271),(true,5,287),(true,6,319),(true,7,383),(false,9,511),(true,10,1023)] 2047 0 Pl.az (by kernel_rfl) (by kernel_rfl) (by kernel_rfl) ?_
     refine Pl.ah rfl rfl rfl rfl rfl (fun u X=>Pl.enters Tryz.func84 (by kernel_rfl) rfl u X) ?_
     refine Calls.mono (fF _ _ (Int.natAbs d) (Un.below ud (Pl.Ex.trans hE1 (Pl.Ex.trans hE2 (Pl.Ex.trans aO (Pl.Ex.trans aR (Pl.Ex.trans aP (Pl.Ex.trans aH (Pl.Ex.trans bu (Pl.Ex.trans bf (Pl.Ex.trans bI bY))))))))))) ?_
     rintro e yM ⟨v12,rfl,nV,bM⟩
     obtain ⟨Et,c14,rfl,Ff⟩:=nV
     have rE:=Pl.Ex.size bM
     have lV:=Pl.Ex.trans jl bM
     refine ⟨_,rfl,lV,?_⟩
     refine Pl.ah rfl rfl rfl rfl rfl (fun u X=>Pl.enters Tryz.func131 (by kernel_rfl) rfl u X) ?_
     refine Calls.mono (Ao _ _ _ ((Int.natAbs d:Nat):Int) ((g:Nat):Int) (Zn.of Ff) (Zn.of (Un.below u7 (Pl.Ex.trans aH (Pl.Ex.trans bu (Pl.Ex.trans bf (Pl.Ex.trans bI (Pl.Ex.trans bY bM))))))) (Sz.le (Sn.sz (Sz.sn ld)) (by omega)) (Sz.le (Sn.sz lg) (by decide)) (by omega) dd _ rfl) ?_
     rintro e FV ⟨vq,rfl,zJ,ed⟩
     obtain ⟨Aq,cq,rfl,uq⟩:=zJ
     have zK:=Pl.Ex.size ed
     have nU:=Pl.Ex.trans lV ed
     refine ⟨_,rfl,nU,?_⟩
     refine Pl.aG nU rfl ?_
     refine Pl.bg (new:=[.bool (decide ((((Int.natAbs d:Nat):Int)/((g:Nat):Int))<0)),.slice Aq (limbs (Int.natAbs (((Int.natAbs d:Nat):Int)/((g:Nat):Int)))).length cq]) (Pl.Cb.ex gL (Pl.Ex.trans bM ed)) (by kernel_rfl) rfl (by simp [Value.oneCell']) rfl rfl rfl rfl rfl rfl (fun Y hY=>Pl.Ex.xs nU hY (by omega)) ?_
     intro IA pM Cj
     have dK:=Pl.Ex.xs (Pl.Ex.trans bY (Pl.Ex.trans bM ed)) pM (by omega)
     have Cz:=Pl.Xs.size pM
     have uM:=Pl.Ex.xs nU pM (by omega)
     refine Pl.aG uM rfl ?_
     refine Pl.af ?_
     refine Pl.tK (by kernel_rfl) ?_
     refine Pl.jv [(2,.pointer (some ⟨N1,0,none⟩)),(3,.pointer (some ⟨N2,0,none⟩)),(4,.pointer (some ⟨N3,0,none⟩)),(5,.int .i64 0),(6,.pointer (some ⟨N8,0,none⟩)),(7,.pointer (some ⟨N9,0,none⟩)),(8,.bool true),(9,.pointer (some ⟨mo,0,none⟩)),(10,.bool true)] (Pl.aa rfl (Pl.aa rfl (Pl.aa rfl (Pl.aa rfl (Pl.aa rfl (Pl.aa rfl (Pl.aa rfl (Pl.aa rfl (Pl.aa rfl Pl.aA))))))))) ?_
     have k16:=Un.xs uq pM (Pl.Cb.ex gL (Pl.Ex.trans bM ed)) (by simp)
     exact R6 _ _ ⟨mo,Aq,cq,(Pl.Ex.trans bI dK),Cj,(by omega),k16,rfl⟩
end Go.Proofs.YtdpmbgomcjnohaaGreatDoor
/- Rationals: sums, products, order, floors. -/
namespace Go.Proofs.YtdpmbgomcjnohaaGreatDoor
open Go.RowKit 
set_option linter.all false
set_option maxRecDepth 100000
set_option maxHeartbeats 8000000
theorem Qn.le {w:World} {v:Value} {q:Rat} {L M K N:Nat} (h:Qn w v q L M) (h1:L≤K) (h2:M≤N):Qn w v q K N:=by
 obtain ⟨A,c,A2,c2,e,u,u2,z,y⟩:=h
 exact ⟨A,c,A2,c2,e,u,u2,z.le h1,y.le h2⟩
theorem abf {p q:Rat} (h1:p.num=q.num) (h2:p.den=q.den):p=q:=Rat.ext h1 h2
theorem wy (w:World) (va vb:Value) (p q:Rat) (L M L2 M2:Nat) (ha:Qn w va p L M) (hb:Qn w vb q L2 M2) (hL:L≤1000000) (hM:M≤1000000) (hL2:L2≤1000000) (hM2:M2≤1000000) :
  Calls Tryz.prog 34 #[va,vb] w fun e w'=>e = .returned (.bool (decide (p=q)))∧Pl.Ex w w':=by
 obtain ⟨Aa,ca,Ba,ba,rfl,ua,ta,za,ya⟩:=ha
 obtain ⟨Ab,cb,Bb,bb,rfl,ub,tb,zb,yb⟩:=hb
 refine Pl.bL (n:=18) (vs:=[.agg #[.bool (decide ((Rat.num p)<0)),.slice Aa (limbs (Int.natAbs (Rat.num p))).length ca,.slice Ba (limbs (Rat.den p)).length ba],.agg #[.bool (decide ((Rat.num q)<0)),.slice Ab (limbs (Int.natAbs (Rat.num q))).length cb,.slice Bb (limbs (Rat.den q)).length bb]]) Tryz.func34 rfl (by kernel_rfl) (by simp) ?_
 repeat refine Pl.ay ?_
 refine Pl.aB (by kernel_rfl) ?_
 refine Pl.dN (cs:=[.bool (decide ((Rat.num p)<0)),.slice Aa (limbs (Int.natAbs (Rat.num p))).length ca,.slice Ba (limbs (Rat.den p)).length ba]) rfl rfl rfl rfl rfl rfl (fun Y hY=>trivial) ?_
 intro N1 w1 hE1 eP aC
 have ig:=Pl.Cb.lt aC
 have mH:=Pl.Ex.size hE1
 refine Pl.dN (cs:=[.bool (decide ((Rat.num q)<0)),.slice Ab (limbs (Int.natAbs (Rat.num q))).length cb,.slice Bb (limbs (Rat.den q)).length bb]) rfl rfl rfl rfl rfl rfl (fun Y hY=>trivial) ?_
 intro N2 w2 hE2 gD aD
 have iB:=Pl.Cb.lt aD
 have mY:=Pl.Ex.size hE2
 refine Pl.aG trivial rfl ?_
 refine Pl.af ?_
 repeat refine Pl.ay ?_
 refine Pl.aB (by kernel_rfl) ?_
 refine Pl.bC (.pointer (some ⟨N1,0,none⟩)) trivial rfl rfl rfl rfl (fun X=>by kernel_rfl) ?_
 refine Pl.dJ (part:=[.bool (decide ((Rat.num p)<0)),.slice Aa (limbs (Int.natAbs (Rat.num p))).length ca]) (Pl.Cb.ex aC hE2) rfl Tryz.underlying24 rfl (by kernel_rfl) trivial rfl rfl rfl rfl rfl ?_
 refine Pl.bC (.pointer (some ⟨N2,0,none⟩)) trivial rfl rfl rfl rfl (fun X=>by kernel_rfl) ?_
 refine Pl.dJ (part:=[.bool (decide ((Rat.num q)<0)),.slice Ab (limbs (Int.natAbs (Rat.num q))).length cb]) aD rfl Tryz.underlying24 rfl (by kernel_rfl) trivial rfl rfl rfl rfl rfl ?_
 by_cases c3:(Rat.num p)=(Rat.num q)
 · refine Pl.ah rfl rfl rfl rfl rfl (fun u X=>Pl.enters Tryz.func43 (by kernel_rfl) rfl u X) ?_
   refine Calls.mono (EO _ _ _ (Rat.num p) (Rat.num q) (Zn.of (Un.below ua (Pl.Ex.trans hE1 hE2))) (Zn.of (Un.below ub (Pl.Ex.trans hE1 hE2))) (Sz.le za (by omega)) (Sz.le zb (by omega)) true (decide_eq_true c3)) ?_
   rintro e w3 ⟨rfl,aO⟩
   have mZ:=Pl.Ex.size aO
   refine ⟨_,rfl,trivial,?_⟩
   refine Pl.aG trivial rfl ?_
   refine Pl.bC (.pointer (some ⟨N1,2,none⟩)) trivial rfl rfl rfl rfl (fun X=>by kernel_rfl) ?_
   refine Pl.eT (v:=.slice Ba (limbs (Rat.den p)).length ba) Tryz.underlying22 rfl (Pl.Cb.at (j:=2) (Pl.Cb.ex aC (Pl.Ex.trans hE2 aO)) rfl) trivial rfl rfl rfl rfl rfl ?_
   refine Pl.bC (.pointer (some ⟨N2,2,none⟩)) trivial rfl rfl rfl rfl (fun X=>by kernel_rfl) ?_
   refine Pl.eT (v:=.slice Bb (limbs (Rat.den q)).length bb) Tryz.underlying22 rfl (Pl.Cb.at (j:=2) (Pl.Cb.ex aD aO) rfl) trivial rfl rfl rfl rfl rfl ?_
   refine Pl.ah rfl rfl rfl rfl rfl (fun u X=>Pl.enters Tryz.func79 (by kernel_rfl) rfl u X) ?_
   refine Calls.mono (RG _ _ _ (Rat.den p) (Rat.den q) (Un.below ta (Pl.Ex.trans hE1 (Pl.Ex.trans hE2 aO))) (Un.below tb (Pl.Ex.trans hE1 (Pl.Ex.trans hE2 aO))) (Sn.le ya (by omega)) (Sn.le yb (by omega)) _ rfl) ?_
   rintro e w4 ⟨rfl,aR⟩
   have l9:=Pl.Ex.size aR
   refine ⟨_,rfl,trivial,?_⟩
   by_cases c4:(Rat.den p)=(Rat.den q)
   · refine Pl.dO (v:=.bool true) (fun X=>Cm.Xf c4 X) trivial rfl rfl rfl rfl rfl rfl ?_
     refine Pl.aG trivial rfl ?_
     refine Pl.af ?_
     repeat refine Pl.ay ?_
     exact Pl.dU rfl rfl  (⟨by rw [decide_eq_true (abf c3 c4)],(Pl.Ex.trans hE1 (Pl.Ex.trans hE2 (Pl.Ex.trans aO aR)))⟩)
   · refine Pl.dO (v:=.bool false) (fun X=>Cm.Xg c4 X) trivial rfl rfl rfl rfl rfl rfl ?_
     refine Pl.aG trivial rfl ?_
     refine Pl.af ?_
     repeat refine Pl.ay ?_
     exact Pl.dU rfl rfl  (⟨by rw [decide_eq_false (fun h9=>c4 (by rw [h9]))],(Pl.Ex.trans hE1 (Pl.Ex.trans hE2 (Pl.Ex.trans aO aR)))⟩)
 · refine Pl.ah rfl rfl rfl rfl rfl (fun u X=>Pl.enters Tryz.func43 (by kernel_rfl) rfl u X) ?_
   refine Calls.mono (EO _ _ _ (Rat.num p) (Rat.num q) (Zn.of (Un.below ua (Pl.Ex.trans hE1 hE2))) (Zn.of (Un.below ub (Pl.Ex.trans hE1 hE2))) (Sz.le za (by omega)) (Sz.le zb (by omega)) false (decide_eq_false c3)) ?_
   rintro e w3 ⟨rfl,aO⟩
   have mZ:=Pl.Ex.size aO
   refine ⟨_,rfl,trivial,?_⟩
   refine Pl.aG trivial rfl ?_
   refine Pl.af ?_
   repeat refine Pl.ay ?_
   exact Pl.dU rfl rfl  (⟨by rw [decide_eq_false (fun h9=>c3 (by rw [h9]))],(Pl.Ex.trans hE1 (Pl.Ex.trans hE2 aO))⟩)
end Go.Proofs.YtdpmbgomcjnohaaGreatDoor
