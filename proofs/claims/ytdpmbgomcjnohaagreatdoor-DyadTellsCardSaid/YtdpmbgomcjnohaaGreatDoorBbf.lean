/- The document's greatest common divisor. -/
import Derived.Test.YtdpmbgomcjnohaaGreatDoorBar
import Derived.Test.YtdpmbgomcjnohaaGreatDoorBbe
import Derived.Test.YtdpmbgomcjnohaaGreatDoorBav
import Derived.Test.YtdpmbgomcjnohaaGreatDoorBbd

namespace Go.Proofs.YtdpmbgomcjnohaaGreatDoor
open Go.RowKit
set_option linter.all false
set_option maxRecDepth 100000
set_option maxHeartbeats 8000000
namespace EQB
set_option linter.all false
set_option maxRecDepth 100000
set_option maxHeartbeats 8000000
theorem adO (u:Array Value) (X:World):(callFunc 129 u).run Tryz.prog X = .ok (.enter 129 u) X:=Pl.enters Tryz.func129 (by kernel_rfl) rfl u X
end EQB
open EQB
theorem Q5 (x y:Nat):Nat.gcd y (x%y)=Nat.gcd x y:=by rw [Nat.gcd_comm x y,Nat.gcd_rec y x,Nat.gcd_comm]
theorem adP (w:World) (va vb:Value) (a b g:Nat) (ha:Un w va a) (hb:Un w vb b) (hla:Sn a 100) (hlb:Sn b 100) (hg:Nat.gcd a b=g) :
  Calls Tryz.prog 130 #[va,vb] w fun e w'=>∃ u,e = .returned u∧Un w' u g∧Ext w w':=by
 refine Pl.aN (n:=21) (vs:=[va,vb]) Tryz.func130 rfl (by kernel_rfl) (by simp) ?_
 refine Pl.af ?_
 refine Pl.ah (by kernel_rfl) ?_
 refine Pl.lU trivial rfl rfl rfl rfl rfl ?_
 refine Pl.aj ?_
 refine Pl.af ?_
 refine Pl.lI [(0,va),(1,vb)] (Pl.aC rfl (Pl.aC rfl Pl.dW)) ?_
 refine Pl.nu ?_
 refine Pl.ym (fun k l' w'=>∃ (x y:Nat) (u v:Value),k=y∧Nat.gcd x y=g∧Sn x 100∧Sn y 100∧Ext w w'∧Un w' u x∧Un w' v y∧l'=[(0,u),(1,v)]) b ⟨a,b,va,vb,rfl,hg,hla,hlb,Ext.refl w,ha,hb,rfl⟩ ?_
 rintro y _ w1 ⟨x,_,u,v,rfl,hgk,hx,hy,hB1,h_u,h_v,rfl⟩
 obtain ⟨A_v,c_v,rfl,-⟩:=Un.sh h_v
 rcases Nat.eq_zero_or_pos y with hy0 | hy0
 · refine Pl.af ?_
   refine Pl.af ?_
   refine Pl.ah (by kernel_rfl) ?_
   refine Pl.oU trivial rfl rfl rfl rfl rfl ?_
   refine Q0 trivial rfl rfl rfl rfl rfl ?_
   refine Pl.Ky (v:=(.bool false)) trivial rfl rfl rfl rfl rfl rfl (fun X=>VO (decide_eq_false (KG hy0)) X) ?_
   refine Pl.aj ?_
   refine Pl.dH rfl ?_
   refine Pl.Br ?_
   refine Pl.af ?_
   refine Pl.ah (by kernel_rfl) ?_
   refine Pl.oU trivial rfl rfl rfl rfl rfl ?_
   refine Pl.lU trivial rfl rfl rfl rfl rfl ?_
   refine Pl.aj ?_
   refine Pl.aZ rfl rfl ?_
   exact ⟨_,rfl,by rw [← hgk,hy0,Nat.gcd_zero_right];exact h_u,hB1⟩
 · refine Pl.af ?_
   refine Pl.af ?_
   refine Pl.ah (by kernel_rfl) ?_
   refine Pl.oU trivial rfl rfl rfl rfl rfl ?_
   refine Q0 trivial rfl rfl rfl rfl rfl ?_
   refine Pl.Ky (v:=(.bool true)) trivial rfl rfl rfl rfl rfl rfl (fun X=>VO (decide_eq_true (Uz hy0)) X) ?_
   refine Pl.aj ?_
   refine Pl.fP rfl ?_
   refine Pl.fG ?_
   refine Pl.nu ?_
   refine Pl.af ?_
   refine Pl.ah (by kernel_rfl) ?_
   refine Pl.oU trivial rfl rfl rfl rfl rfl ?_
   refine Pl.oU trivial rfl rfl rfl rfl rfl ?_
   refine Pl.ay rfl rfl rfl rfl rfl adO ?_
   refine Calls.mono (Vz _ _ _ x y _ _ h_u h_v (Sn.le hx (by decide)) (Sn.le hy (by decide)) (Nat.ne_of_gt hy0) rfl rfl) ?_
   rintro e w2 ⟨⟨aiI,adR,rfl,aiJ,adS⟩,hB2⟩
   refine ⟨_,rfl,trivial,?_⟩
   have aiK:Sn (x/y) 100:=Sn.div hx
   have adT:Sn (x%y) 100:=Sn.mod hy (Nat.ne_of_gt hy0)
   refine Pl.oU trivial rfl rfl rfl rfl rfl ?_
   refine Pl.vS trivial rfl rfl rfl rfl rfl rfl ?_
   refine Pl.vS trivial rfl rfl rfl rfl rfl rfl ?_
   refine Pl.vS trivial rfl rfl rfl rfl rfl rfl ?_
   refine Pl.lU trivial rfl rfl rfl rfl rfl ?_
   refine Pl.lU trivial rfl rfl rfl rfl rfl ?_
   refine Pl.lU trivial rfl rfl rfl rfl rfl ?_
   refine Pl.aj ?_
   refine Pl.af ?_
   refine Pl.ah (by kernel_rfl) ?_
   refine Pl.oU trivial rfl rfl rfl rfl rfl ?_
   refine Pl.lU trivial rfl rfl rfl rfl rfl ?_
   refine Pl.aj ?_
   refine Pl.ah (by kernel_rfl) ?_
   refine Pl.oU trivial rfl rfl rfl rfl rfl ?_
   refine Pl.lU trivial rfl rfl rfl rfl rfl ?_
   refine Pl.aj ?_
   refine Pl.oh ?_
   have XL:=Un.below h_v hB2
   exact Pl.zY [(0,.slice A_v (limbs y).length c_v),(1,adR)] (Pl.aC rfl (Pl.aC rfl Pl.dW)) (Nat.mod_lt x hy0) ⟨y,x%y,_,_,rfl,(Q5 x y).trans hgk,hy,adT,(Ext.below hB1 hB2),XL,adS,rfl⟩
end Go.Proofs.YtdpmbgomcjnohaaGreatDoor
/- Rationals in lowest terms. -/
namespace Go.Proofs.YtdpmbgomcjnohaaGreatDoor
open Go.RowKit 
set_option linter.all false
set_option maxRecDepth 100000
set_option maxHeartbeats 8000000
theorem X3 {w:World} {A:Option Addr} {c L n:Nat} (h:Un w (.slice A L c) n):Zn w (.agg #[.bool false,.slice A L c]) (n:Int):=by
 obtain rfl:L=_:=h.len
 refine ⟨A,c,?_,h⟩
 rw [show decide (((n:Nat):Int)<0)=false from decide_eq_false (by omega)];rfl
theorem bC (w:World) (va:Value) (a:Nat) (ha:Un w va a) :
  Calls Tryz.prog 84 #[va] w fun e w'=>∃ u,e = .returned u∧Zn w' u ((a:Nat):Int)∧Pl.Ex w w':=by
 refine Pl.aN (n:=5) (vs:=[va]) Tryz.func84 rfl (by kernel_rfl) (by simp) ?_
 repeat refine Pl.af ?_
 refine Pl.ah (by kernel_rfl) ?_
 refine Pl.bK (z:=.agg #[.bool false,.slice none 0 0]) (by kernel_rfl) rfl rfl rfl rfl (fun Y hY=>trivial) ?_
 intro N1 w1 hE1 bT ak
 have dP:=Pl.Cb.lt ak
 have jC:=Pl.Ex.size hE1
 replace ak:Pl.Cb w1 N1 24 [.bool false,.slice none 0 0]:=ak
 refine Pl.aj ?_
 repeat refine Pl.af ?_
 refine Pl.ah (by kernel_rfl) ?_
 refine Pl.aG trivial rfl ?_
 obtain ⟨A2,c3,rfl⟩:=Un.WI (Un.below ha hE1)
 refine Pl.aL (.agg #[.bool false,(.slice A2 (limbs a).length c3)]) trivial rfl rfl rfl rfl (fun X=>by kernel_rfl) ?_
 refine Pl.bz (new:=[.bool false,(.slice A2 (limbs a).length c3)]) ak (by kernel_rfl) rfl (by simp [Value.oneCell']) rfl rfl rfl rfl rfl rfl (fun Y hY=>trivial) ?_
 intro w2 hX2 gQ
 have hE2:=Pl.Ex.xs hE1 hX2 (by omega)
 have jM:=Pl.Xs.size hX2
 refine Pl.aj ?_
 repeat refine Pl.af ?_
 exact Pl.aV rfl rfl gQ Tryz.underlying24 rfl (by kernel_rfl) (⟨_,rfl,X3 (Un.below ha hE2),hE2⟩)
theorem Sn.VU {z:Int} {K:Nat} (h:Sz z K):Sn z.natAbs K:=h
theorem mk_pos {n d:Int} {g:Nat} (h0:d≠0) (hg:Nat.gcd n.natAbs d.natAbs=g) (h:¬ d<0):(Rat.divInt n d).num=n/(g:Int)∧(Rat.divInt n d).den=(((d.natAbs:Nat):Int)/(g:Int)).natAbs:=by
 subst hg
 refine ⟨by rw [Rq.Rh h0,if_neg h],by rw [Rq.Rj h0];rfl⟩
theorem RB {n d:Int} {g:Nat} (h0:d≠0) (hg:Nat.gcd n.natAbs d.natAbs=g) (h:d<0):(Rat.divInt n d).num = -(n/(g:Int))∧(Rat.divInt n d).den=(((d.natAbs:Nat):Int)/(g:Int)).natAbs:=by
 subst hg
 refine ⟨by rw [Rq.Rh h0,if_pos h],by rw [Rq.Rj h0];rfl⟩
theorem jf (w:World) (vn vd:Value) (n d:Int) (hn:Zn w vn n) (hd:Zn w vd d) (L M:Nat) (ln:Sz n L) (ld:Sz d M) (hL:L≤100) (hM:M≤100) (hd0:d≠0) :
  Calls Tryz.prog 97 #[vn,vd] w fun e w'=>∃ u,e = .returned (.tuple #[u,.int .i64 0])∧Qn w' u (Rat.divInt n d) L M∧Pl.Ex w w':=by
 obtain ⟨An,cn,rfl,un⟩:=hn
 obtain ⟨Ad,cd,rfl,ud⟩:=hd
 obtain ⟨g,hgg⟩:∃ g,Nat.gcd n.natAbs d.natAbs=g:=⟨_,rfl⟩
 have hg0:g≠0:=by rw [← hgg];exact fun h=>hd0 (Int.natAbs_eq_zero.1 (Nat.eq_zero_of_gcd_eq_zero_right h))
 have lg:Sn g 100:=by rw [← hgg];exact Sn.down (n:=d.natAbs) (Sn.le ld (by omega)) (Nat.gcd_le_right _ (by omega))
 have dn:n%(g:Int)=0:=by rw [← hgg];exact Int.emod_eq_zero_of_dvd (Int.dvd_natAbs.1 (Int.natCast_dvd_natCast.2 (Nat.gcd_dvd_left _ _)))
 have dd:((d.natAbs:Nat):Int)%(g:Int)=0:=by rw [← hgg];exact Int.emod_eq_zero_of_dvd (Int.natCast_dvd_natCast.2 (Nat.gcd_dvd_right _ _))
 refine Pl.aN (n:=44) (vs:=[.agg #[.bool (decide (n<0)),.slice An (limbs (Int.natAbs n)).length cn],.agg #[.bool (decide (d<0)),.slice Ad (limbs (Int.natAbs d)).length cd]]) Tryz.func97 rfl (by kernel_rfl) (by simp) ?_
 repeat refine Pl.af ?_
 refine Pl.ah (by kernel_rfl) ?_
 refine Pl.bF (cs:=[.bool (decide (n<0)),.slice An (limbs (Int.natAbs n)).length cn]) rfl rfl rfl rfl rfl rfl (fun Y hY=>trivial) ?_
 intro N1 w1 hE1 bT ak
 have dP:=Pl.Cb.lt ak
 have jC:=Pl.Ex.size hE1
 refine Pl.bF (cs:=[.bool (decide (d<0)),.slice Ad (limbs (Int.natAbs d)).length cd]) rfl rfl rfl rfl rfl rfl (fun Y hY=>trivial) ?_
 intro N2 w2 hE2 dU aA
 have iq:=Pl.Cb.lt aA
 have jM:=Pl.Ex.size hE2
 refine Pl.bK (z:=.agg #[.bool false,.slice none 0 0,.slice none 0 0]) (by kernel_rfl) rfl rfl rfl rfl (fun Y hY=>trivial) ?_
 intro N3 w3 aJ pY aY
 have yg:=Pl.Cb.lt aY
 have jX:=Pl.Ex.size aJ
 replace aY:Pl.Cb w3 N3 41 [.bool false,.slice none 0 0,.slice none 0 0]:=aY
 refine Pl.aG trivial rfl ?_
 refine Pl.aj ?_
 repeat refine Pl.af ?_
 refine Pl.ah (by kernel_rfl) ?_
 refine Pl.aL (.pointer (some ⟨N2,1,none⟩)) trivial rfl rfl rfl rfl (fun X=>by kernel_rfl) ?_
 refine Pl.bD (v:=.slice Ad (limbs (Int.natAbs d)).length cd) Tryz.underlying22 rfl (Pl.Cb.at (j:=1) (Pl.Cb.ex aA aJ) rfl) trivial rfl rfl rfl rfl rfl ?_
 refine Pl.su Tryz.underlying22 trivial rfl rfl rfl rfl rfl ?_
 have af0:¬ (((limbs (Int.natAbs d)).length)=0):=(fun h9=>hd0 (Int.natAbs_eq_zero.1 (kC.1 h9)))
 refine Pl.bP (v:=.bool false) (fun X=>Pl.gW (Pl.e_f (by omega)) X) trivial rfl rfl rfl rfl rfl rfl ?_
 refine Pl.aj ?_
 repeat refine Pl.af ?_
 refine Pl.dH rfl ?_
 repeat refine Pl.af ?_
 refine Pl.fG ?_
 repeat refine Pl.af ?_
 refine Pl.ah (by kernel_rfl) ?_
 refine Pl.aL (.pointer (some ⟨N1,1,none⟩)) trivial rfl rfl rfl rfl (fun X=>by kernel_rfl) ?_
 refine Pl.bD (v:=.slice An (limbs (Int.natAbs n)).length cn) Tryz.underlying22 rfl (Pl.Cb.at (j:=1) (Pl.Cb.ex ak (Pl.Ex.trans hE2 aJ)) rfl) trivial rfl rfl rfl rfl rfl ?_
 refine Pl.aL (.pointer (some ⟨N2,1,none⟩)) trivial rfl rfl rfl rfl (fun X=>by kernel_rfl) ?_
 refine Pl.bD (v:=.slice Ad (limbs (Int.natAbs d)).length cd) Tryz.underlying22 rfl (Pl.Cb.at (j:=1) (Pl.Cb.ex aA aJ) rfl) trivial rfl rfl rfl rfl rfl ?_
 refine Pl.ay rfl rfl rfl rfl rfl (fun u X=>Pl.enters Tryz.func130 (by kernel_rfl) rfl u X) ?_
 refine Calls.mono (adP _ _ _ (Int.natAbs n) (Int.natAbs d) g (Un.below un (Pl.Ex.trans hE1 (Pl.Ex.trans hE2 aJ))) (Un.below ud (Pl.Ex.trans hE1 (Pl.Ex.trans hE2 aJ))) (Sn.le ln (by omega)) (Sn.le ld (by omega)) hgg) ?_
 rintro e w4 ⟨vg,rfl,hvg,aP⟩
 have kY:=Pl.Ex.size aP
 refine ⟨_,rfl,trivial,?_⟩
 refine Pl.ay rfl rfl rfl rfl rfl (fun u X=>Pl.enters Tryz.func84 (by kernel_rfl) rfl u X) ?_
 refine Calls.mono (bC _ _ g hvg) ?_
 rintro e w5 ⟨v4,rfl,hv4,aW⟩
 obtain ⟨A5,c6,rfl,u7⟩:=hv4
 have mI:=Pl.Ex.size aW
 refine ⟨_,rfl,trivial,?_⟩
 refine Pl.bK (z:=.agg #[.bool false,.slice none 0 0]) (by kernel_rfl) rfl rfl rfl rfl (fun Y hY=>trivial) ?_
 intro N8 w6 bO af1 FK
 have aiS:=Pl.Cb.lt FK
 have rC:=Pl.Ex.size bO
 replace FK:Pl.Cb w6 N8 24 [.bool false,.slice none 0 0]:=FK
 refine Pl.bz (new:=[.bool (decide (((g:Nat):Int)<0)),.slice A5 (limbs (Int.natAbs ((g:Nat):Int))).length c6]) FK (by kernel_rfl) rfl (by simp [Value.oneCell']) rfl rfl rfl rfl rfl rfl (fun Y hY=>trivial) ?_
 intro w7 iM FL
 have cB:=Pl.Ex.xs bO iM (by omega)
 have wm:=Pl.Xs.size iM
 refine Pl.aj ?_
 repeat refine Pl.af ?_
 refine Pl.ah (by kernel_rfl) ?_
 refine Pl.bg (part:=[.bool (decide (n<0)),.slice An (limbs (Int.natAbs n)).length cn]) (Pl.Cb.ex ak (Pl.Ex.trans hE2 (Pl.Ex.trans aJ (Pl.Ex.trans aP (Pl.Ex.trans aW cB))))) rfl Tryz.underlying24 rfl (by kernel_rfl) trivial rfl rfl rfl rfl rfl ?_
 refine Pl.bg (part:=[.bool (decide (((g:Nat):Int)<0)),.slice A5 (limbs (Int.natAbs ((g:Nat):Int))).length c6]) FL rfl Tryz.underlying24 rfl (by kernel_rfl) trivial rfl rfl rfl rfl rfl ?_
 refine Pl.ay rfl rfl rfl rfl rfl (fun u X=>Pl.enters Tryz.func131 (by kernel_rfl) rfl u X) ?_
 refine Calls.mono (oP _ _ _ n ((g:Nat):Int) (Zn.of (Un.below un (Pl.Ex.trans hE1 (Pl.Ex.trans hE2 (Pl.Ex.trans aJ (Pl.Ex.trans aP (Pl.Ex.trans aW cB))))))) (Zn.of (Un.below u7 cB)) (Sz.le ln (by omega)) (Sz.le (Sn.sz lg) (by decide)) (by omega) dn _ rfl) ?_
 rintro e w8 ⟨vp,rfl,hvp,iX⟩
 obtain ⟨Ap,cp,rfl,up⟩:=hvp
 have EW:=Pl.Ex.size iX
 refine ⟨_,rfl,trivial,?_⟩
 refine Pl.aG trivial rfl ?_
 refine Pl.bK (z:=.agg #[.bool false,.slice none 0 0]) (by kernel_rfl) rfl rfl rfl rfl (fun Y hY=>trivial) ?_
 intro N9 w9 rE af2 FM
 have aci:=Pl.Cb.lt FM
 have sz9:=Pl.Ex.size rE
 replace FM:Pl.Cb w9 N9 24 [.bool false,.slice none 0 0]:=FM
 refine Pl.bz (new:=[.bool (decide ((n/((g:Nat):Int))<0)),.slice Ap (limbs (Int.natAbs (n/((g:Nat):Int)))).length cp]) FM (by kernel_rfl) rfl (by simp [Value.oneCell']) rfl rfl rfl rfl rfl rfl (fun Y hY=>trivial) ?_
 intro Ic aaq yP
 have fu:=Pl.Ex.xs rE aaq (by omega)
 have TW:=Pl.Xs.size aaq
 refine Pl.aG trivial rfl ?_
 refine Pl.aj ?_
 repeat refine Pl.af ?_
 refine Pl.Fa (fun l' w'=>∃ (Nq:Nat) (Aq:Option Addr) (cq:Nat),Pl.Ex Ic w'∧(Pl.Cb w' Nq 24 [.bool (decide ((((Int.natAbs d:Nat):Int)/((g:Nat):Int))<0)),.slice Aq (limbs (Int.natAbs (((Int.natAbs d:Nat):Int)/((g:Nat):Int)))).length cq])∧(Ic.heap.size≤Nq)∧(Un w' (.slice Aq (limbs (Int.natAbs (((Int.natAbs d:Nat):Int)/((g:Nat):Int)))).length cq) (Int.natAbs (((Int.natAbs d:Nat):Int)/((g:Nat):Int))))∧l'=[(2,.pointer (some ⟨N1,0,none⟩)),(3,.pointer (some ⟨N2,0,none⟩)),(4,.pointer (some ⟨N3,0,none⟩)),(5,.int .i64 0),(6,.pointer (some ⟨N8,0,none⟩)),(7,.pointer (some ⟨N9,0,none⟩)),(8,.bool true),(9,.pointer (some ⟨Nq,0,none⟩)),(10,.bool true)]) ?_ fun KU=>?_
 · rintro _ Oz ⟨Nq,Aq,cq,dX,kNq,hNq,uq,rfl⟩
   have NC:=Pl.Ex.size dX
   repeat refine Pl.af ?_
   refine Pl.ah (by kernel_rfl) ?_
   refine Pl.aL (.pointer (some ⟨N2,0,none⟩)) trivial rfl rfl rfl rfl (fun X=>by kernel_rfl) ?_
   by_cases c11:d<0
   · have hneg:=c11
     refine Pl.bD (v:=.bool true) Tryz.underlying4 rfl ((by have h9:=(Pl.Cb.at (j:=0) (Pl.Cb.ex aA (Pl.Ex.trans aJ (Pl.Ex.trans aP (Pl.Ex.trans aW (Pl.Ex.trans cB (Pl.Ex.trans iX (Pl.Ex.trans fu dX))))))) rfl);rw [decide_eq_true hneg] at h9;exact h9)) trivial rfl rfl rfl rfl rfl ?_
     refine Pl.aj ?_
     repeat refine Pl.af ?_
     refine Pl.fP rfl ?_
     repeat refine Pl.af ?_
     refine Pl.ah (by kernel_rfl) ?_
     refine Pl.bg (part:=[.bool (decide ((n/((g:Nat):Int))<0)),.slice Ap (limbs (Int.natAbs (n/((g:Nat):Int)))).length cp]) (Pl.Cb.ex yP dX) rfl Tryz.underlying24 rfl (by kernel_rfl) trivial rfl rfl rfl rfl rfl ?_
     refine Pl.ay rfl rfl rfl rfl rfl (fun u X=>Pl.enters Tryz.func72 (by kernel_rfl) rfl u X) ?_
     refine Calls.mono (D7 _ _ _ (Zn.of (Un.below up (Pl.Ex.trans fu dX))) (Sz.le (Sz.div ln) (by omega)) _ rfl) ?_
     rintro e OA ⟨vm,rfl,hvm,bG⟩
     obtain ⟨Am,cm,rfl,um⟩:=hvm
     have DC:=Pl.Ex.size bG
     refine ⟨_,rfl,trivial,?_⟩
     refine Pl.bz (new:=[.bool (decide ((-(n/((g:Nat):Int)))<0)),.slice Am (limbs (Int.natAbs (-(n/((g:Nat):Int))))).length cm]) (Pl.Cb.ex yP (Pl.Ex.trans dX bG)) (by kernel_rfl) rfl (by simp [Value.oneCell']) rfl rfl rfl rfl rfl rfl (fun Y hY=>trivial) ?_
     intro OB RD KV
     have aT:=Pl.Ex.xs (Pl.Ex.trans fu (Pl.Ex.trans dX bG)) RD (by omega)
     have DD:=Pl.Xs.size RD
     have KW:=Pl.Cb.xs (Pl.Cb.ex kNq bG) RD (by simp;omega)
     refine Pl.aj ?_
     repeat refine Pl.af ?_
     refine Pl.ah (by kernel_rfl) ?_
     refine Pl.bg (part:=[.bool (decide ((-(n/((g:Nat):Int)))<0)),.slice Am (limbs (Int.natAbs (-(n/((g:Nat):Int))))).length cm]) KV rfl Tryz.underlying24 rfl (by kernel_rfl) trivial rfl rfl rfl rfl rfl ?_
     refine Pl.aL (.pointer (some ⟨Nq,1,none⟩)) trivial rfl rfl rfl rfl (fun X=>by kernel_rfl) ?_
     refine Pl.bD (v:=.slice Aq (limbs (Int.natAbs (((Int.natAbs d:Nat):Int)/((g:Nat):Int)))).length cq) Tryz.underlying22 rfl (Pl.Cb.at (j:=1) KW rfl) trivial rfl rfl rfl rfl rfl ?_
     refine Pl.aL (.agg #[.bool (decide ((-(n/((g:Nat):Int)))<0)),.slice Am (limbs (Int.natAbs (-(n/((g:Nat):Int))))).length cm,.slice Aq (limbs (Int.natAbs (((Int.natAbs d:Nat):Int)/((g:Nat):Int)))).length cq]) trivial rfl rfl rfl rfl (fun X=>by kernel_rfl) ?_
     refine Pl.bz (new:=[.bool (decide ((-(n/((g:Nat):Int)))<0)),.slice Am (limbs (Int.natAbs (-(n/((g:Nat):Int))))).length cm,.slice Aq (limbs (Int.natAbs (((Int.natAbs d:Nat):Int)/((g:Nat):Int)))).length cq]) (Pl.Cb.ex aY (Pl.Ex.trans aP (Pl.Ex.trans aW (Pl.Ex.trans cB (Pl.Ex.trans iX aT))))) (by kernel_rfl) rfl (by simp [Value.oneCell']) rfl rfl rfl rfl rfl rfl (fun Y hY=>trivial) ?_
     intro Ml KX fE
     have gG:=Pl.Ex.xs (Pl.Ex.trans aJ (Pl.Ex.trans aP (Pl.Ex.trans aW (Pl.Ex.trans cB (Pl.Ex.trans iX aT))))) KX (by omega)
     have DF:=Pl.Xs.size KX
     have X4:=Pl.Cb.xs (Pl.Cb.ex FL (Pl.Ex.trans iX aT)) KX (by simp;omega)
     have ad3:=Pl.Cb.xs KV KX (by simp;omega)
     have ad4:=Pl.Cb.xs KW KX (by simp;omega)
     refine Pl.aG trivial rfl ?_
     refine Pl.aj ?_
     have k12:=Un.xs um RD (Pl.Cb.ex yP (Pl.Ex.trans dX bG)) (by simp)
     have k13:=Un.xs k12 KX (Pl.Cb.ex aY (Pl.Ex.trans aP (Pl.Ex.trans aW (Pl.Ex.trans cB (Pl.Ex.trans iX aT))))) (by simp)
     have k14:=Un.xs (Un.below uq bG) RD (Pl.Cb.ex yP (Pl.Ex.trans dX bG)) (by simp)
     have k15:=Un.xs k14 KX (Pl.Cb.ex aY (Pl.Ex.trans aP (Pl.Ex.trans aW (Pl.Ex.trans cB (Pl.Ex.trans iX aT))))) (by simp)
     repeat refine Pl.af ?_
     exact Pl.kE rfl rfl rfl fE Tryz.underlying41 rfl (by kernel_rfl) (⟨_,rfl,Qn.of (RB hd0 hgg hneg).1 (RB hd0 hgg hneg).2 k13 k15 (Sz.neg (Sz.div ln)) (Sn.VU (Sz.div (Sn.sz (Sz.sn ld)))),(Pl.Ex.trans hE1 (Pl.Ex.trans hE2 gG))⟩)
   · have hneg:=c11
     refine Pl.bD (v:=.bool false) Tryz.underlying4 rfl ((by have h9:=(Pl.Cb.at (j:=0) (Pl.Cb.ex aA (Pl.Ex.trans aJ (Pl.Ex.trans aP (Pl.Ex.trans aW (Pl.Ex.trans cB (Pl.Ex.trans iX (Pl.Ex.trans fu dX))))))) rfl);rw [decide_eq_false hneg] at h9;exact h9)) trivial rfl rfl rfl rfl rfl ?_
     refine Pl.aj ?_
     repeat refine Pl.af ?_
     refine Pl.dH rfl ?_
     repeat refine Pl.af ?_
     refine Pl.fG ?_
     repeat refine Pl.af ?_
     refine Pl.ah (by kernel_rfl) ?_
     refine Pl.bg (part:=[.bool (decide ((n/((g:Nat):Int))<0)),.slice Ap (limbs (Int.natAbs (n/((g:Nat):Int)))).length cp]) (Pl.Cb.ex yP dX) rfl Tryz.underlying24 rfl (by kernel_rfl) trivial rfl rfl rfl rfl rfl ?_
     refine Pl.aL (.pointer (some ⟨Nq,1,none⟩)) trivial rfl rfl rfl rfl (fun X=>by kernel_rfl) ?_
     refine Pl.bD (v:=.slice Aq (limbs (Int.natAbs (((Int.natAbs d:Nat):Int)/((g:Nat):Int)))).length cq) Tryz.underlying22 rfl (Pl.Cb.at (j:=1) kNq rfl) trivial rfl rfl rfl rfl rfl ?_
     refine Pl.aL (.agg #[.bool (decide ((n/((g:Nat):Int))<0)),.slice Ap (limbs (Int.natAbs (n/((g:Nat):Int)))).length cp,.slice Aq (limbs (Int.natAbs (((Int.natAbs d:Nat):Int)/((g:Nat):Int)))).length cq]) trivial rfl rfl rfl rfl (fun X=>by kernel_rfl) ?_
     refine Pl.bz (new:=[.bool (decide ((n/((g:Nat):Int))<0)),.slice Ap (limbs (Int.natAbs (n/((g:Nat):Int)))).length cp,.slice Aq (limbs (Int.natAbs (((Int.natAbs d:Nat):Int)/((g:Nat):Int)))).length cq]) (Pl.Cb.ex aY (Pl.Ex.trans aP (Pl.Ex.trans aW (Pl.Ex.trans cB (Pl.Ex.trans iX (Pl.Ex.trans fu dX)))))) (by kernel_rfl) rfl (by simp [Value.oneCell']) rfl rfl rfl rfl rfl rfl (fun Y hY=>trivial) ?_
     intro OA oJ fE
     have bG:=Pl.Ex.xs (Pl.Ex.trans aJ (Pl.Ex.trans aP (Pl.Ex.trans aW (Pl.Ex.trans cB (Pl.Ex.trans iX (Pl.Ex.trans fu dX)))))) oJ (by omega)
     have DC:=Pl.Xs.size oJ
     have X4:=Pl.Cb.xs (Pl.Cb.ex FL (Pl.Ex.trans iX (Pl.Ex.trans fu dX))) oJ (by simp;omega)
     have KV:=Pl.Cb.xs (Pl.Cb.ex yP dX) oJ (by simp;omega)
     have KW:=Pl.Cb.xs kNq oJ (by simp;omega)
     refine Pl.aG trivial rfl ?_
     refine Pl.aj ?_
     have k12:=Un.xs (Un.below up (Pl.Ex.trans fu dX)) oJ (Pl.Cb.ex aY (Pl.Ex.trans aP (Pl.Ex.trans aW (Pl.Ex.trans cB (Pl.Ex.trans iX (Pl.Ex.trans fu dX)))))) (by simp)
     have k13:=Un.xs uq oJ (Pl.Cb.ex aY (Pl.Ex.trans aP (Pl.Ex.trans aW (Pl.Ex.trans cB (Pl.Ex.trans iX (Pl.Ex.trans fu dX)))))) (by simp)
     repeat refine Pl.af ?_
     exact Pl.kE rfl rfl rfl fE Tryz.underlying41 rfl (by kernel_rfl) (⟨_,rfl,Qn.of (mk_pos hd0 hgg hneg).1 (mk_pos hd0 hgg hneg).2 k12 k13 (Sz.div ln) (Sn.VU (Sz.div (Sn.sz (Sz.sn ld)))),(Pl.Ex.trans hE1 (Pl.Ex.trans hE2 bG))⟩)
 · repeat refine Pl.af ?_
   refine Pl.uj (S:=fun X=>Pl.Ex Ic X) fo (Pl.Ex.trans (Pl.Ex.refl _) (Pl.Ex.drew _)) ?_
   have dX:=Pl.Ex.drew Ic
   generalize Ic.drew=Oz at *
   have NC:=Pl.Ex.size dX
   intro xH
   refine Pl.jk [(true,0,0),(true,1,1),(true,3,3)] 11 8 Pl.aR (by kernel_rfl) (by kernel_rfl) (by kernel_rfl) ?_
   refine Pl.aL (.pointer (some ⟨N2,1,none⟩)) xH rfl rfl rfl rfl (fun X=>by kernel_rfl) ?_
   refine Pl.iB (v:=.slice Ad (limbs (Int.natAbs d)).length cd) Tryz.underlying22 rfl (fun X hX=>Pl.Cb.at (j:=1) (Pl.Cb.ex (Pl.Cb.ex aA (Pl.Ex.trans aJ (Pl.Ex.trans aP (Pl.Ex.trans aW (Pl.Ex.trans cB (Pl.Ex.trans iX fu)))))) hX) rfl) xH rfl rfl rfl rfl rfl ?_
   refine Pl.bn (part:=[.bool (decide (((g:Nat):Int)<0)),.slice A5 (limbs (Int.natAbs ((g:Nat):Int))).length c6]) (fun X hX=>Pl.Cb.ex (Pl.Cb.ex FL (Pl.Ex.trans iX fu)) hX) rfl Tryz.underlying24 rfl (by kernel_rfl) xH rfl rfl rfl rfl rfl ?_
   refine Pl.aj ?_
   refine Pl.uP [2,8] 7 (by kernel_rfl) (by kernel_rfl) (by kernel_rfl) (Pl.dO ?_ (Pl.dO ?_ Pl.jU))
   · refine Pl.ay rfl rfl rfl rfl rfl (fun u X=>Pl.enters Tryz.func84 (by kernel_rfl) rfl u X) ?_
     refine Calls.mono (bC _ _ (Int.natAbs d) (Un.below ud (Pl.Ex.trans hE1 (Pl.Ex.trans hE2 (Pl.Ex.trans aJ (Pl.Ex.trans aP (Pl.Ex.trans aW (Pl.Ex.trans cB (Pl.Ex.trans iX (Pl.Ex.trans fu dX)))))))))) ?_
     rintro e OA ⟨v11,rfl,jN,bG⟩
     obtain ⟨JL,c13,rfl,Ox⟩:=jN
     have DC:=Pl.Ex.size bG
     have pQ:=Pl.Ex.trans xH bG
     refine ⟨_,rfl,pQ,?_⟩
     refine Pl.aj ?_
     refine Pl.uP [4,8] 6 (by kernel_rfl) (by kernel_rfl) (by kernel_rfl) (Pl.dO ?_ (Pl.dO ?_ Pl.jU))
     · refine Pl.ay rfl rfl rfl rfl rfl (fun u X=>Pl.enters Tryz.func131 (by kernel_rfl) rfl u X) ?_
       refine Calls.mono (oP _ _ _ ((Int.natAbs d:Nat):Int) ((g:Nat):Int) (Zn.of Ox) (Zn.of (Un.below u7 (Pl.Ex.trans cB (Pl.Ex.trans iX (Pl.Ex.trans fu (Pl.Ex.trans dX bG)))))) (Sz.le (Sn.sz (Sz.sn ld)) (by omega)) (Sz.le (Sn.sz lg) (by decide)) (by omega) dd _ rfl) ?_
       rintro e OB ⟨vq,rfl,rz,aT⟩
       obtain ⟨Aq,cq,rfl,uq⟩:=rz
       have DD:=Pl.Ex.size aT
       have mO:=Pl.Ex.trans pQ aT
       refine ⟨_,rfl,mO,?_⟩
       refine Pl.aj ?_
       refine Pl.jk [(true,5,31),(true,6,63),(true,7,127),(false,8,255),(false,9,511),(true,10,1023)] 2047 0 Pl.aR (by kernel_rfl) (by kernel_rfl) (by kernel_rfl) ?_
       refine Pl.aG mO rfl ?_
       refine Pl.bK (z:=.agg #[.bool false,.slice none 0 0]) (by kernel_rfl) rfl rfl rfl rfl (fun Y hY=>Pl.Ex.trans mO hY) ?_
       intro Nt Ml gG EX eF
       have Mc:=Pl.Cb.lt eF
       have DF:=Pl.Ex.size gG
       replace eF:Pl.Cb Ml Nt 24 [.bool false,.slice none 0 0]:=eF
       have jv:=Pl.Ex.trans mO gG
       refine Pl.bz (new:=[.bool (decide ((((Int.natAbs d:Nat):Int)/((g:Nat):Int))<0)),.slice Aq (limbs (Int.natAbs (((Int.natAbs d:Nat):Int)/((g:Nat):Int)))).length cq]) eF (by kernel_rfl) rfl (by simp [Value.oneCell']) rfl rfl rfl rfl rfl rfl (fun Y hY=>Pl.Ex.xs jv hY (by omega)) ?_
       intro JZ iD jZ
       have bu:=Pl.Ex.xs gG iD (by omega)
       have Fg:=Pl.Xs.size iD
       have DK:=Pl.Ex.xs jv iD (by omega)
       refine Pl.aG DK rfl ?_
       refine Pl.aj ?_
       refine Pl.Kj (by kernel_rfl) ?_
       refine Pl.lI [(2,.pointer (some ⟨N1,0,none⟩)),(3,.pointer (some ⟨N2,0,none⟩)),(4,.pointer (some ⟨N3,0,none⟩)),(5,.int .i64 0),(6,.pointer (some ⟨N8,0,none⟩)),(7,.pointer (some ⟨N9,0,none⟩)),(8,.bool true),(9,.pointer (some ⟨Nt,0,none⟩)),(10,.bool true)] (Pl.aC rfl (Pl.aC rfl (Pl.aC rfl (Pl.aC rfl (Pl.aC rfl (Pl.aC rfl (Pl.aC rfl (Pl.aC rfl (Pl.aC rfl Pl.dW))))))))) ?_
       exact KU _ _ ⟨Nt,Aq,cq,(Pl.Ex.trans dX (Pl.Ex.trans bG (Pl.Ex.trans aT bu))),jZ,(by omega),(Un.below uq bu),rfl⟩
     · refine Pl.bK (z:=.agg #[.bool false,.slice none 0 0]) (by kernel_rfl) rfl rfl rfl rfl (fun Y hY=>Pl.Ex.trans pQ hY) ?_
       intro Nt OB aT EX eF
       have Mc:=Pl.Cb.lt eF
       have DD:=Pl.Ex.size aT
       replace eF:Pl.Cb OB Nt 24 [.bool false,.slice none 0 0]:=eF
       have mO:=Pl.Ex.trans pQ aT
       refine Pl.aj ?_
       refine Pl.jk [(false,4,271),(true,5,287),(true,6,319),(true,7,383),(false,9,511),(true,10,1023)] 2047 0 Pl.aR (by kernel_rfl) (by kernel_rfl) (by kernel_rfl) ?_
       refine Pl.ay rfl rfl rfl rfl rfl (fun u X=>Pl.enters Tryz.func131 (by kernel_rfl) rfl u X) ?_
       refine Calls.mono (oP _ _ _ ((Int.natAbs d:Nat):Int) ((g:Nat):Int) (Zn.of (Un.below Ox aT)) (Zn.of (Un.below u7 (Pl.Ex.trans cB (Pl.Ex.trans iX (Pl.Ex.trans fu (Pl.Ex.trans dX (Pl.Ex.trans bG aT))))))) (Sz.le (Sn.sz (Sz.sn ld)) (by omega)) (Sz.le (Sn.sz lg) (by decide)) (by omega) dd _ rfl) ?_
       rintro e Ml ⟨vq,rfl,rz,gG⟩
       obtain ⟨Aq,cq,rfl,uq⟩:=rz
       have DF:=Pl.Ex.size gG
       have jv:=Pl.Ex.trans mO gG
       refine ⟨_,rfl,jv,?_⟩
       refine Pl.aG jv rfl ?_
       refine Pl.bz (new:=[.bool (decide ((((Int.natAbs d:Nat):Int)/((g:Nat):Int))<0)),.slice Aq (limbs (Int.natAbs (((Int.natAbs d:Nat):Int)/((g:Nat):Int)))).length cq]) (Pl.Cb.ex eF gG) (by kernel_rfl) rfl (by simp [Value.oneCell']) rfl rfl rfl rfl rfl rfl (fun Y hY=>Pl.Ex.xs jv hY (by omega)) ?_
       intro JZ iD jZ
       have bu:=Pl.Ex.xs (Pl.Ex.trans aT gG) iD (by omega)
       have Fg:=Pl.Xs.size iD
       have DK:=Pl.Ex.xs jv iD (by omega)
       refine Pl.aG DK rfl ?_
       refine Pl.aj ?_
       refine Pl.Kj (by kernel_rfl) ?_
       refine Pl.lI [(2,.pointer (some ⟨N1,0,none⟩)),(3,.pointer (some ⟨N2,0,none⟩)),(4,.pointer (some ⟨N3,0,none⟩)),(5,.int .i64 0),(6,.pointer (some ⟨N8,0,none⟩)),(7,.pointer (some ⟨N9,0,none⟩)),(8,.bool true),(9,.pointer (some ⟨Nt,0,none⟩)),(10,.bool true)] (Pl.aC rfl (Pl.aC rfl (Pl.aC rfl (Pl.aC rfl (Pl.aC rfl (Pl.aC rfl (Pl.aC rfl (Pl.aC rfl (Pl.aC rfl Pl.dW))))))))) ?_
       have k16:=Un.xs uq iD (Pl.Cb.ex eF gG) (by simp)
       exact KU _ _ ⟨Nt,Aq,cq,(Pl.Ex.trans dX (Pl.Ex.trans bG bu)),jZ,(by omega),k16,rfl⟩
   · refine Pl.bK (z:=.agg #[.bool false,.slice none 0 0]) (by kernel_rfl) rfl rfl rfl rfl (fun Y hY=>Pl.Ex.trans xH hY) ?_
     intro Rv OA bG XY mg
     have aam:=Pl.Cb.lt mg
     have DC:=Pl.Ex.size bG
     replace mg:Pl.Cb OA Rv 24 [.bool false,.slice none 0 0]:=mg
     have pQ:=Pl.Ex.trans xH bG
     refine Pl.aj ?_
     refine Pl.jk [(false,2,267),(false,4,271),(true,5,287),(true,6,319),(true,7,383),(false,9,511),(true,10,1023)] 2047 0 Pl.aR (by kernel_rfl) (by kernel_rfl) (by kernel_rfl) ?_
     refine Pl.ay rfl rfl rfl rfl rfl (fun u X=>Pl.enters Tryz.func84 (by kernel_rfl) rfl u X) ?_
     refine Calls.mono (bC _ _ (Int.natAbs d) (Un.below ud (Pl.Ex.trans hE1 (Pl.Ex.trans hE2 (Pl.Ex.trans aJ (Pl.Ex.trans aP (Pl.Ex.trans aW (Pl.Ex.trans cB (Pl.Ex.trans iX (Pl.Ex.trans fu (Pl.Ex.trans dX bG))))))))))) ?_
     rintro e OB ⟨v12,rfl,NB,aT⟩
     obtain ⟨A13,c14,rfl,u15⟩:=NB
     have DD:=Pl.Ex.size aT
     have mO:=Pl.Ex.trans pQ aT
     refine ⟨_,rfl,mO,?_⟩
     refine Pl.ay rfl rfl rfl rfl rfl (fun u X=>Pl.enters Tryz.func131 (by kernel_rfl) rfl u X) ?_
     refine Calls.mono (oP _ _ _ ((Int.natAbs d:Nat):Int) ((g:Nat):Int) (Zn.of u15) (Zn.of (Un.below u7 (Pl.Ex.trans cB (Pl.Ex.trans iX (Pl.Ex.trans fu (Pl.Ex.trans dX (Pl.Ex.trans bG aT))))))) (Sz.le (Sn.sz (Sz.sn ld)) (by omega)) (Sz.le (Sn.sz lg) (by decide)) (by omega) dd _ rfl) ?_
     rintro e Ml ⟨vq,rfl,rz,gG⟩
     obtain ⟨Aq,cq,rfl,uq⟩:=rz
     have DF:=Pl.Ex.size gG
     have jv:=Pl.Ex.trans mO gG
     refine ⟨_,rfl,jv,?_⟩
     refine Pl.aG jv rfl ?_
     refine Pl.bz (new:=[.bool (decide ((((Int.natAbs d:Nat):Int)/((g:Nat):Int))<0)),.slice Aq (limbs (Int.natAbs (((Int.natAbs d:Nat):Int)/((g:Nat):Int)))).length cq]) (Pl.Cb.ex mg (Pl.Ex.trans aT gG)) (by kernel_rfl) rfl (by simp [Value.oneCell']) rfl rfl rfl rfl rfl rfl (fun Y hY=>Pl.Ex.xs jv hY (by omega)) ?_
     intro JZ iD FI
     have bu:=Pl.Ex.xs (Pl.Ex.trans bG (Pl.Ex.trans aT gG)) iD (by omega)
     have Fg:=Pl.Xs.size iD
     have DK:=Pl.Ex.xs jv iD (by omega)
     refine Pl.aG DK rfl ?_
     refine Pl.aj ?_
     refine Pl.Kj (by kernel_rfl) ?_
     refine Pl.lI [(2,.pointer (some ⟨N1,0,none⟩)),(3,.pointer (some ⟨N2,0,none⟩)),(4,.pointer (some ⟨N3,0,none⟩)),(5,.int .i64 0),(6,.pointer (some ⟨N8,0,none⟩)),(7,.pointer (some ⟨N9,0,none⟩)),(8,.bool true),(9,.pointer (some ⟨Rv,0,none⟩)),(10,.bool true)] (Pl.aC rfl (Pl.aC rfl (Pl.aC rfl (Pl.aC rfl (Pl.aC rfl (Pl.aC rfl (Pl.aC rfl (Pl.aC rfl (Pl.aC rfl Pl.dW))))))))) ?_
     have k16:=Un.xs uq iD (Pl.Cb.ex mg (Pl.Ex.trans aT gG)) (by simp)
     exact KU _ _ ⟨Rv,Aq,cq,(Pl.Ex.trans dX bu),FI,(by omega),k16,rfl⟩
end Go.Proofs.YtdpmbgomcjnohaaGreatDoor
/- Rationals: sums, products, order, floors. -/
namespace Go.Proofs.YtdpmbgomcjnohaaGreatDoor
open Go.RowKit Rf
set_option linter.all false
set_option maxRecDepth 100000
set_option maxHeartbeats 8000000
theorem Qn.le {w:World} {v:Value} {q:Rat} {L M K N:Nat} (h:Qn w v q L M) (h1:L≤K) (h2:M≤N):Qn w v q K N:=by
 obtain ⟨A,c,A2,c2,e,u,u2,z,y⟩:=h
 exact ⟨A,c,A2,c2,e,u,u2,z.le h1,y.le h2⟩
theorem U8 {p q:Rat} (h1:p.num=q.num) (h2:p.den=q.den):p=q:=Rat.ext h1 h2
theorem sQ (w:World) (va vb:Value) (p q:Rat) (L M L2 M2:Nat) (ha:Qn w va p L M) (hb:Qn w vb q L2 M2) (hL:L≤1000000) (hM:M≤1000000) (hL2:L2≤1000000) (hM2:M2≤1000000) :
  Calls Tryz.prog 34 #[va,vb] w fun e w'=>e = .returned (.bool (decide (p=q)))∧Pl.Ex w w':=by
 obtain ⟨Aa,ca,Ba,ba,rfl,ua,ta,za,ya⟩:=ha
 obtain ⟨Ab,cb,Bb,bb,rfl,ub,tb,zb,yb⟩:=hb
 refine Pl.aN (n:=18) (vs:=[.agg #[.bool (decide ((Rat.num p)<0)),.slice Aa (limbs (Int.natAbs (Rat.num p))).length ca,.slice Ba (limbs (Rat.den p)).length ba],.agg #[.bool (decide ((Rat.num q)<0)),.slice Ab (limbs (Int.natAbs (Rat.num q))).length cb,.slice Bb (limbs (Rat.den q)).length bb]]) Tryz.func34 rfl (by kernel_rfl) (by simp) ?_
 repeat refine Pl.af ?_
 refine Pl.ah (by kernel_rfl) ?_
 refine Pl.bF (cs:=[.bool (decide ((Rat.num p)<0)),.slice Aa (limbs (Int.natAbs (Rat.num p))).length ca,.slice Ba (limbs (Rat.den p)).length ba]) rfl rfl rfl rfl rfl rfl (fun Y hY=>trivial) ?_
 intro N1 w1 hE1 bT ak
 have dP:=Pl.Cb.lt ak
 have jC:=Pl.Ex.size hE1
 refine Pl.bF (cs:=[.bool (decide ((Rat.num q)<0)),.slice Ab (limbs (Int.natAbs (Rat.num q))).length cb,.slice Bb (limbs (Rat.den q)).length bb]) rfl rfl rfl rfl rfl rfl (fun Y hY=>trivial) ?_
 intro N2 w2 hE2 dU aA
 have iq:=Pl.Cb.lt aA
 have jM:=Pl.Ex.size hE2
 refine Pl.aG trivial rfl ?_
 refine Pl.aj ?_
 repeat refine Pl.af ?_
 refine Pl.ah (by kernel_rfl) ?_
 refine Pl.aL (.pointer (some ⟨N1,0,none⟩)) trivial rfl rfl rfl rfl (fun X=>by kernel_rfl) ?_
 refine Pl.bg (part:=[.bool (decide ((Rat.num p)<0)),.slice Aa (limbs (Int.natAbs (Rat.num p))).length ca]) (Pl.Cb.ex ak hE2) rfl Tryz.underlying24 rfl (by kernel_rfl) trivial rfl rfl rfl rfl rfl ?_
 refine Pl.aL (.pointer (some ⟨N2,0,none⟩)) trivial rfl rfl rfl rfl (fun X=>by kernel_rfl) ?_
 refine Pl.bg (part:=[.bool (decide ((Rat.num q)<0)),.slice Ab (limbs (Int.natAbs (Rat.num q))).length cb]) aA rfl Tryz.underlying24 rfl (by kernel_rfl) trivial rfl rfl rfl rfl rfl ?_
 by_cases c3:(Rat.num p)=(Rat.num q)
 · refine Pl.ay rfl rfl rfl rfl rfl (fun u X=>Pl.enters Tryz.func43 (by kernel_rfl) rfl u X) ?_
   refine Calls.mono (Cu _ _ _ (Rat.num p) (Rat.num q) (Zn.of (Un.below ua (Pl.Ex.trans hE1 hE2))) (Zn.of (Un.below ub (Pl.Ex.trans hE1 hE2))) (Sz.le za (by omega)) (Sz.le zb (by omega)) true (decide_eq_true c3)) ?_
   rintro e w3 ⟨rfl,aJ⟩
   have jX:=Pl.Ex.size aJ
   refine ⟨_,rfl,trivial,?_⟩
   refine Pl.aG trivial rfl ?_
   refine Pl.aL (.pointer (some ⟨N1,2,none⟩)) trivial rfl rfl rfl rfl (fun X=>by kernel_rfl) ?_
   refine Pl.bD (v:=.slice Ba (limbs (Rat.den p)).length ba) Tryz.underlying22 rfl (Pl.Cb.at (j:=2) (Pl.Cb.ex ak (Pl.Ex.trans hE2 aJ)) rfl) trivial rfl rfl rfl rfl rfl ?_
   refine Pl.aL (.pointer (some ⟨N2,2,none⟩)) trivial rfl rfl rfl rfl (fun X=>by kernel_rfl) ?_
   refine Pl.bD (v:=.slice Bb (limbs (Rat.den q)).length bb) Tryz.underlying22 rfl (Pl.Cb.at (j:=2) (Pl.Cb.ex aA aJ) rfl) trivial rfl rfl rfl rfl rfl ?_
   refine Pl.ay rfl rfl rfl rfl rfl (fun u X=>Pl.enters Tryz.func79 (by kernel_rfl) rfl u X) ?_
   refine Calls.mono (Kv _ _ _ (Rat.den p) (Rat.den q) (Un.below ta (Pl.Ex.trans hE1 (Pl.Ex.trans hE2 aJ))) (Un.below tb (Pl.Ex.trans hE1 (Pl.Ex.trans hE2 aJ))) (Sn.le ya (by omega)) (Sn.le yb (by omega)) _ rfl) ?_
   rintro e w4 ⟨rfl,aP⟩
   have kY:=Pl.Ex.size aP
   refine ⟨_,rfl,trivial,?_⟩
   by_cases c4:(Rat.den p)=(Rat.den q)
   · refine Pl.bP (v:=.bool true) (fun X=>Cm.QB c4 X) trivial rfl rfl rfl rfl rfl rfl ?_
     refine Pl.aG trivial rfl ?_
     refine Pl.aj ?_
     repeat refine Pl.af ?_
     exact Pl.aZ rfl rfl  (⟨by rw [decide_eq_true (U8 c3 c4)],(Pl.Ex.trans hE1 (Pl.Ex.trans hE2 (Pl.Ex.trans aJ aP)))⟩)
   · refine Pl.bP (v:=.bool false) (fun X=>Cm.QC c4 X) trivial rfl rfl rfl rfl rfl rfl ?_
     refine Pl.aG trivial rfl ?_
     refine Pl.aj ?_
     repeat refine Pl.af ?_
     exact Pl.aZ rfl rfl  (⟨by rw [decide_eq_false (fun h9=>c4 (by rw [h9]))],(Pl.Ex.trans hE1 (Pl.Ex.trans hE2 (Pl.Ex.trans aJ aP)))⟩)
 · refine Pl.ay rfl rfl rfl rfl rfl (fun u X=>Pl.enters Tryz.func43 (by kernel_rfl) rfl u X) ?_
   refine Calls.mono (Cu _ _ _ (Rat.num p) (Rat.num q) (Zn.of (Un.below ua (Pl.Ex.trans hE1 hE2))) (Zn.of (Un.below ub (Pl.Ex.trans hE1 hE2))) (Sz.le za (by omega)) (Sz.le zb (by omega)) false (decide_eq_false c3)) ?_
   rintro e w3 ⟨rfl,aJ⟩
   have jX:=Pl.Ex.size aJ
   refine ⟨_,rfl,trivial,?_⟩
   refine Pl.aG trivial rfl ?_
   refine Pl.aj ?_
   repeat refine Pl.af ?_
   exact Pl.aZ rfl rfl  (⟨by rw [decide_eq_false (fun h9=>c3 (by rw [h9]))],(Pl.Ex.trans hE1 (Pl.Ex.trans hE2 aJ))⟩)
end Go.Proofs.YtdpmbgomcjnohaaGreatDoor
