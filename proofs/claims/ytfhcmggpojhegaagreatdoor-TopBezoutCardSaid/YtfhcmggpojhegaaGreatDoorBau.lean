/- Square roots, by halves. -/
import Derived.Test.YtfhcmggpojhegaaGreatDoorBat

namespace Go.Proofs.YtfhcmggpojhegaaGreatDoor
open Go.RowKit 
set_option linter.all false
set_option maxRecDepth 100000
set_option maxHeartbeats 8000000
theorem alV {a k:Nat} (hge:4611686018427387904≤a) (la:Sn a 300) (hk:aU a/4=k):15≤k∧4*k≤aU a∧aU a≤9600:=by
 have:=lJ (k:=62) hge
 have:=la.aU
 omega
theorem afv (a:Nat):Rt.kr a 2*Rt.kr a 2≤a:=by
 have:=Rt.afr a (show 2≠0 by decide)
 rwa [Nat.pow_two] at this
theorem afw {a k:Nat} (h:15≤k) (ha:4611686018427387904≤a):a/2^(2*k)<a:=Nat.div_lt_self (by omega) (Nat.one_lt_two_pow (by omega))
theorem Ya {a k:Nat} (hge:4611686018427387904≤a) (hk:15≤k∧4*k≤aU a∧aU a≤9600):a/2^(2*k)≠0:=by
 have h1:2^(2*k)≤a:=Nat.le_trans (Nat.pow_le_pow_right (by decide) (by omega)) (kD (n:=a) (by omega))
 exact Nat.pos_iff_ne_zero.1 (Nat.div_pos h1 (Nat.two_pow_pos _))
theorem TF {a k t s r:Nat} (ht:a/2^(2*k)=t) (hs:Rt.kr t 2=s) (hr:t-s*s=r) (h0:t≠0):s*s+r=t∧s≠0∧r*2^k≤a∧s*2^k≤a∧r*2^k+a/2^k%2^k≤a:=by
 have h1:=afv t
 rw [hs] at h1
 have hp:=Rt.ag8 (a:=t) (show 2≠0 by decide) h0
 rw [hs] at hp
 have hst:s≤t:=Nat.le_trans (Nat.le_mul_of_pos_left s hp) h1
 have h2:=Nat.two_pow_pos k
 have e0:=Nat.div_add_mod a (2^k)
 have e2:=Nat.div_add_mod (a/2^k) (2^k)
 rw [Nat.div_div_eq_div_mul,← Nat.pow_add,← Nat.two_mul,ht] at e2
 generalize a/2^k%2^k=m at *
 generalize a%2^k=l at *
 generalize a/2^k=h at *
 generalize 2^k=B at *
 have h3:t*B+m≤a:=by
  have:h≤B*h:=Nat.le_mul_of_pos_left h h2
  rw [Nat.mul_comm t B]
  omega
 have h4:r*B≤t*B:=Nat.mul_le_mul_right B (by omega)
 have h5:s*B≤t*B:=Nat.mul_le_mul_right B hst
 exact ⟨by omega,by omega,by omega,by omega,by omega⟩
theorem TG {a Q x y:Nat} (h:x*x+y=a+Q) (h2:a<(x+1)*(x+1)) (hl:y<Q):1≤x∧(x-1)*(x-1)+(y+((x-1)*2^1+1))=a+Q∧a<(x-1+1)*(x-1+1):=by
 obtain ⟨h3,h4,h5⟩:=Rt.XT h h2 hl
 exact ⟨h3,by rw [show (x-1)*2^1=2*(x-1) by omega];exact h4,h5⟩
theorem Qe (a:Nat):∀ (w:World) (va:Value),Un w va a→Sn a 300 →
  Calls Tryz.prog 42 #[va] w fun e w'=>∃ u v,e = .returned (.tuple #[u,v])∧Un w' u (Rt.kr a 2)∧Un w' v (a-Rt.kr a 2*Rt.kr a 2)∧Pl.Ex w w':=by
 induction a using Nat.strongRecOn with
 | _ a ih =>
 intro w va ha la
 refine Pl.aZ (n:=95) (vs:=[va]) Tryz.func42 rfl (by kernel_rfl) (by simp) ?_
 have hsq:=afv a
 have hsl:=Rt.KX a (show 2≠0 by decide)
 repeat refine Pl.ay ?_
 refine Pl.ak (by kernel_rfl) ?_
 refine Pl.aG trivial rfl ?_
 refine Pl.aj ?_
 repeat refine Pl.ay ?_
 refine Pl.ak (by kernel_rfl) ?_
 refine Pl.aG trivial rfl ?_
 by_cases c1:a<18446744073709551616
 · refine Pl.az rfl rfl rfl rfl rfl (fun u X=>Pl.enters Tryz.func61 (by kernel_rfl) rfl u X) ?_
   refine Calls.mono (arT _ _ a ha c1) ?_
   rintro e w1 ⟨rfl,hE1⟩
   have X0:=Pl.Ex.size hE1
   refine ⟨_,rfl,trivial,?_⟩
   refine Pl.aG trivial rfl ?_
   refine Pl.aj ?_
   repeat refine Pl.ay ?_
   refine Pl.ak (by kernel_rfl) ?_
   refine Pl.aG trivial rfl ?_
   by_cases c2:a<4611686018427387904
   · refine Pl.bV (v:=.bool true) (fun X=>Pl.JD (decide_eq_true (by omega)) X) trivial rfl rfl rfl rfl rfl rfl ?_
     refine Pl.aG trivial rfl ?_
     refine Pl.aj ?_
     repeat refine Pl.ay ?_
     refine Pl.cK rfl ?_
     repeat refine Pl.ay ?_
     refine Pl.ak (by kernel_rfl) ?_
     refine Pl.aG trivial rfl ?_
     refine Pl.az rfl rfl rfl rfl rfl (fun u X=>Pl.enters Tryz.func106 (by kernel_rfl) rfl u X) ?_
     refine Calls.mono (Qd _ a (by omega)) ?_
     rintro e w2 ⟨rfl,hE2⟩
     have WY:=Pl.Ex.size hE2
     refine ⟨_,rfl,trivial,?_⟩
     refine Pl.aG trivial rfl ?_
     refine Pl.aj ?_
     repeat refine Pl.ay ?_
     refine Pl.ak (by kernel_rfl) ?_
     refine Pl.aG trivial rfl ?_
     refine Pl.az rfl rfl rfl rfl rfl (fun u X=>Pl.enters Tryz.func62 (by kernel_rfl) rfl u X) ?_
     refine Calls.mono (ofN _ (Rt.kr a 2) (by omega)) ?_
     rintro e w3 ⟨v3,rfl,hv3,bJ⟩
     have TD:=Pl.Ex.size bJ
     refine ⟨_,rfl,trivial,?_⟩
     refine Pl.aG trivial rfl ?_
     refine Pl.bV (v:=.int .u64 (((Rt.kr a 2*Rt.kr a 2):Nat):Int)) (fun X=>Qb (a:=Rt.kr a 2) (b:=Rt.kr a 2) (by omega) X) trivial rfl rfl rfl rfl rfl rfl ?_
     refine Pl.bV (v:=.int .u64 (((a-(Rt.kr a 2*Rt.kr a 2)):Nat):Int)) (fun X=>Qa (a:=a) (b:=(Rt.kr a 2*Rt.kr a 2)) (by omega) X) trivial rfl rfl rfl rfl rfl rfl ?_
     refine Pl.az rfl rfl rfl rfl rfl (fun u X=>Pl.enters Tryz.func62 (by kernel_rfl) rfl u X) ?_
     refine Calls.mono (ofN _ (a-(Rt.kr a 2*Rt.kr a 2)) (by omega)) ?_
     rintro e w4 ⟨v4,rfl,hv4,bX⟩
     have TH:=Pl.Ex.size bX
     refine ⟨_,rfl,trivial,?_⟩
     refine Pl.aG trivial rfl ?_
     refine Pl.aj ?_
     repeat refine Pl.ay ?_
     exact Pl.jy rfl rfl rfl  (⟨_,_,rfl,(Un.below hv3 bX),hv4,(Pl.Ex.trans hE1 (Pl.Ex.trans hE2 (Pl.Ex.trans bJ bX)))⟩)
   · refine Pl.bV (v:=.bool false) (fun X=>Pl.JD (decide_eq_false (by omega)) X) trivial rfl rfl rfl rfl rfl rfl ?_
     refine Pl.aG trivial rfl ?_
     refine Pl.aj ?_
     repeat refine Pl.ay ?_
     refine Pl.bn rfl ?_
     repeat refine Pl.ay ?_
     refine Pl.bM ?_
     repeat refine Pl.ay ?_
     refine Pl.ak (by kernel_rfl) ?_
     have hge:4611686018427387904≤a:=by omega
     obtain ⟨k,hk⟩:∃ k,aU a/4=k:=⟨_,rfl⟩
     have hk5:=alV hge la hk
     clear hsq hsl
     refine Pl.aG trivial rfl ?_
     refine Pl.az rfl rfl rfl rfl rfl (fun u X=>Pl.enters Tryz.func28 (by kernel_rfl) rfl u X) ?_
     refine Calls.mono (vw _ _ a (Un.below ha hE1) (Sn.le la (by decide)) _ rfl) ?_
     rintro e w2 ⟨rfl,hE2⟩
     have WY:=Pl.Ex.size hE2
     refine ⟨_,rfl,trivial,?_⟩
     refine Pl.bV (v:=.int .i64 ((k:Nat):Int)) (fun X=>Pl.Bn.as (yK (a:=aU a) (b:=4) (by omega) (by omega)) (by rw [hk]) X) trivial rfl rfl rfl rfl rfl rfl ?_
     refine Pl.aG trivial rfl ?_
     refine Pl.aj ?_
     repeat refine Pl.ay ?_
     refine Pl.ak (by kernel_rfl) ?_
     refine Pl.aG trivial rfl ?_
     refine Pl.bV (v:=.int .i64 (((2*k):Nat):Int)) (fun X=>FI (a:=2) (b:=k) (by omega) X) trivial rfl rfl rfl rfl rfl rfl ?_
     refine Pl.az rfl rfl rfl rfl rfl (fun u X=>Pl.enters Tryz.func64 (by kernel_rfl) rfl u X) ?_
     refine Calls.mono (XW _ _ a (2*k) (Un.below ha (Pl.Ex.trans hE1 hE2)) (by omega) (Sn.le la (by decide))) ?_
     rintro e w3 ⟨v3,rfl,hv3,bJ⟩
     have TD:=Pl.Ex.size bJ
     refine ⟨_,rfl,trivial,?_⟩
     refine Pl.az rfl rfl rfl rfl rfl (fun u X=>Pl.enters Tryz.func42 (by kernel_rfl) rfl u X) ?_
     refine Calls.mono (ih (a/2^(2*k)) (afw hk5.1 hge) _ _ hv3 (Sn.down la (Nat.div_le_self _ _))) ?_
     rintro e w4 ⟨vs,vr,rfl,hvs,rX,bX⟩
     obtain ⟨t,ht⟩:∃ t,a/2^(2*k)=t:=⟨_,rfl⟩
     have ht0:=Ya hge hk5
     rw [ht] at ht0 hvs rX
     obtain ⟨s,hs⟩:∃ s,Rt.kr t 2=s:=⟨_,rfl⟩
     rw [hs] at hvs rX
     obtain ⟨r,hr⟩:∃ r,t-s*s=r:=⟨_,rfl⟩
     rw [hr] at rX
     obtain ⟨hsr,hs0,hra,hsa,hna⟩:=TF ht hs hr ht0
     have lt_:Sn t 300:=by rw [← ht];exact la.down (Nat.div_le_self _ _)
     have ls:Sn s 300:=by rw [← hs];exact lt_.down (Rt.KX _ (by decide))
     have lr:Sn r 300:=lt_.down (by omega)
     have TH:=Pl.Ex.size bX
     refine ⟨_,rfl,trivial,?_⟩
     refine Pl.aG trivial rfl ?_
     refine Pl.aj ?_
     repeat refine Pl.ay ?_
     refine Pl.ak (by kernel_rfl) ?_
     refine Pl.aG trivial rfl ?_
     refine Pl.az rfl rfl rfl rfl rfl (fun u X=>Pl.enters Tryz.func68 (by kernel_rfl) rfl u X) ?_
     refine Calls.mono (FD _ _ r k rX (by omega) (Sn.le lr (by decide))) ?_
     rintro e w5 ⟨v4,rfl,hv4,bE⟩
     have Mw:=Pl.Ex.size bE
     refine ⟨_,rfl,trivial,?_⟩
     refine Pl.aG trivial rfl ?_
     refine Pl.az rfl rfl rfl rfl rfl (fun u X=>Pl.enters Tryz.func64 (by kernel_rfl) rfl u X) ?_
     refine Calls.mono (XW _ _ a k (Un.below ha (Pl.Ex.trans hE1 (Pl.Ex.trans hE2 (Pl.Ex.trans bJ (Pl.Ex.trans bX bE))))) (by omega) (Sn.le la (by decide))) ?_
     rintro e w6 ⟨v5,rfl,hv5,bu⟩
     have Cj:=Pl.Ex.size bu
     refine ⟨_,rfl,trivial,?_⟩
     refine Pl.aG trivial rfl ?_
     refine Pl.az rfl rfl rfl rfl rfl (fun u X=>Pl.enters Tryz.func107 (by kernel_rfl) rfl u X) ?_
     refine Calls.mono (uj _ _ (a/2^k) k hv5 (Sn.down la (Nat.div_le_self _ _)) (by omega)) ?_
     rintro e w7 ⟨v6,rfl,hv6,cB⟩
     have zS:=Pl.Ex.size cB
     refine ⟨_,rfl,trivial,?_⟩
     refine Pl.az rfl rfl rfl rfl rfl (fun u X=>Pl.enters Tryz.func13 (by kernel_rfl) rfl u X) ?_
     refine Calls.mono (jA _ _ _ (r*2^k) ((a/2^k)%2^k) (Un.below hv4 (Pl.Ex.trans bu cB)) hv6 (Sn.le (la.down hra) (by decide)) (Sn.le (Sn.down (Sn.down la (Nat.div_le_self _ _)) (Nat.mod_le _ _)) (by decide)) _ rfl) ?_
     rintro e w8 ⟨v7,rfl,hv7,dL⟩
     have xg:=Pl.Ex.size dL
     refine ⟨_,rfl,trivial,?_⟩
     refine Pl.aG trivial rfl ?_
     refine Pl.aj ?_
     repeat refine Pl.ay ?_
     refine Pl.ak (by kernel_rfl) ?_
     refine Pl.aG trivial rfl ?_
     refine Pl.az rfl rfl rfl rfl rfl (fun u X=>Pl.enters Tryz.func68 (by kernel_rfl) rfl u X) ?_
     refine Calls.mono (FD _ _ s 1 (Un.below hvs (Pl.Ex.trans bE (Pl.Ex.trans bu (Pl.Ex.trans cB dL)))) (by omega) (Sn.le ls (by decide))) ?_
     rintro e w9 ⟨v8,rfl,DN,fu⟩
     have PV:=Pl.Ex.size fu
     refine ⟨_,rfl,trivial,?_⟩
     refine Pl.az rfl rfl rfl rfl rfl (fun u X=>Pl.enters Tryz.func18 (by kernel_rfl) rfl u X) ?_
     refine Calls.mono (iI _ _ _ ((r*2^k)+((a/2^k)%2^k)) (s*2^1) _ _ (Un.below hv7 fu) DN (Sn.le (la.down hna) (by decide)) (Sn.le (Sn.mul ls (Sn.of (K:=1) (show 2^1<4294967296^1 by decide)) (by decide):Sn (s*2^1) 301) (by decide)) (by omega) rfl rfl) ?_
     rintro e uY ⟨⟨vq,vu,rfl,yL,hvu⟩,cZ⟩
     obtain ⟨q,hq⟩:∃ q,((r*2^k)+((a/2^k)%2^k))/(2*s)=q:=⟨_,rfl⟩
     obtain ⟨u,hu⟩:∃ u,((r*2^k)+((a/2^k)%2^k))%(2*s)=u:=⟨_,rfl⟩
     rw [show s*2^1=2*s by omega] at yL hvu
     rw [hq] at yL
     rw [hu] at hvu
     have lq:Sn q 300:=by rw [← hq];exact (la.down hna).down (Nat.div_le_self _ _)
     have hul:u<2*s:=by rw [← hu];exact Nat.mod_lt _ (by omega)
     obtain ⟨hz1,hz2⟩:=Rt.zim ht hsr hq hu hs0
     have lub:Sn (u*2^k) 301:=Sn.down (Sn.mul (Sn.of (K:=1) (show 2<4294967296^1 by decide)) (la.down hsa) (by decide)) (by rw [← Nat.mul_assoc];exact Nat.mul_le_mul_right _ (by omega))
     have Yb:Sn (a+q*q) 601:=Sn.add la (Sn.mul lq lq (by decide):Sn (q*q) 600) (by decide) (by decide)
     have yH:=Pl.Ex.size cZ
     refine ⟨_,rfl,trivial,?_⟩
     refine Pl.aG trivial rfl ?_
     refine Pl.aj ?_
     repeat refine Pl.ay ?_
     refine Pl.ak (by kernel_rfl) ?_
     refine Pl.aG trivial rfl ?_
     refine Pl.az rfl rfl rfl rfl rfl (fun u X=>Pl.enters Tryz.func68 (by kernel_rfl) rfl u X) ?_
     refine Calls.mono (FD _ _ s k (Un.below hvs (Pl.Ex.trans bE (Pl.Ex.trans bu (Pl.Ex.trans cB (Pl.Ex.trans dL (Pl.Ex.trans fu cZ)))))) (by omega) (Sn.le ls (by decide))) ?_
     rintro e BU ⟨v9,rfl,xk,dw⟩
     have xR:=Pl.Ex.size dw
     refine ⟨_,rfl,trivial,?_⟩
     refine Pl.aG trivial rfl ?_
     refine Pl.az rfl rfl rfl rfl rfl (fun u X=>Pl.enters Tryz.func13 (by kernel_rfl) rfl u X) ?_
     refine Calls.mono (jA _ _ _ (s*2^k) q xk (Un.below yL dw) (Sn.le (la.down hsa) (by decide)) (Sn.le lq (by decide)) _ rfl) ?_
     rintro e w12 ⟨v10,rfl,nP,fV⟩
     have Fw:=Pl.Ex.size fV
     refine ⟨_,rfl,trivial,?_⟩
     refine Pl.aG trivial rfl ?_
     refine Pl.aj ?_
     repeat refine Pl.ay ?_
     refine Pl.ak (by kernel_rfl) ?_
     refine Pl.aG trivial rfl ?_
     refine Pl.az rfl rfl rfl rfl rfl (fun u X=>Pl.enters Tryz.func68 (by kernel_rfl) rfl u X) ?_
     refine Calls.mono (FD _ _ u k (Un.below hvu (Pl.Ex.trans dw fV)) (by omega) (Sn.le (Sn.down (Sn.mul (Sn.of (K:=1) (show 2<4294967296^1 by decide)) ls (by decide)) (Nat.le_of_lt hul):Sn u 301) (by decide))) ?_
     rintro e IZ ⟨v11,rfl,rO,dh⟩
     have Fx:=Pl.Ex.size dh
     refine ⟨_,rfl,trivial,?_⟩
     refine Pl.aG trivial rfl ?_
     refine Pl.az rfl rfl rfl rfl rfl (fun u X=>Pl.enters Tryz.func107 (by kernel_rfl) rfl u X) ?_
     refine Calls.mono (uj _ _ a k (Un.below ha (Pl.Ex.trans hE1 (Pl.Ex.trans hE2 (Pl.Ex.trans bJ (Pl.Ex.trans bX (Pl.Ex.trans bE (Pl.Ex.trans bu (Pl.Ex.trans cB (Pl.Ex.trans dL (Pl.Ex.trans fu (Pl.Ex.trans cZ (Pl.Ex.trans dw (Pl.Ex.trans fV dh))))))))))))) la (by omega)) ?_
     rintro e Qf ⟨v12,rfl,pX,bZ⟩
     have FK:=Pl.Ex.size bZ
     refine ⟨_,rfl,trivial,?_⟩
     refine Pl.az rfl rfl rfl rfl rfl (fun u X=>Pl.enters Tryz.func13 (by kernel_rfl) rfl u X) ?_
     refine Calls.mono (jA _ _ _ (u*2^k) (a%2^k) (Un.below rO bZ) pX (Sn.le lub (by decide)) (Sn.le (Sn.down la (Nat.mod_le _ _)) (by decide)) _ rfl) ?_
     rintro e Ph ⟨v13,rfl,nk,bO⟩
     have Co:=Pl.Ex.size bO
     refine ⟨_,rfl,trivial,?_⟩
     refine Pl.aG trivial rfl ?_
     refine Pl.aj ?_
     repeat refine Pl.ay ?_
     refine Pl.ak (by kernel_rfl) ?_
     refine Pl.aG trivial rfl ?_
     refine Pl.az rfl rfl rfl rfl rfl (fun u X=>Pl.enters Tryz.func17 (by kernel_rfl) rfl u X) ?_
     refine Calls.mono (mulN _ _ _ q q _ (Un.below yL (Pl.Ex.trans dw (Pl.Ex.trans fV (Pl.Ex.trans dh (Pl.Ex.trans bZ bO))))) (Un.below yL (Pl.Ex.trans dw (Pl.Ex.trans fV (Pl.Ex.trans dh (Pl.Ex.trans bZ bO))))) (Sn.le lq (by decide)) (Sn.le lq (by decide)) rfl) ?_
     rintro e w16 ⟨v14,rfl,Vx,bH⟩
     have xU:=Pl.Ex.size bH
     refine ⟨_,rfl,trivial,?_⟩
     refine Pl.aG trivial rfl ?_
     refine Pl.aj ?_
     repeat refine Pl.ay ?_
     refine Pl.dM ?_
     repeat refine Pl.ay ?_
     refine Pl.eF [(8,v10),(9,v13),(14,v14)] (Pl.aa rfl (Pl.aa rfl (Pl.aa rfl Pl.aI))) ?_
     repeat refine Pl.ay ?_
     refine Pl.pV (fun kq l' w'=>∃ vx x vy y,x=kq∧Pl.Ex w16 w'∧(Un w' vx x)∧(Un w' vy y)∧(Sn x 302)∧(Sn y 601)∧(x*x+y=a+q*q)∧(a<(x+1)*(x+1))∧l'=[(8,vx),(9,vy),(14,v14)]) _ ⟨_,_,_,_,rfl,Pl.Ex.refl _,(Un.below nP (Pl.Ex.trans dh (Pl.Ex.trans bZ (Pl.Ex.trans bO bH)))),(Un.below nk bH),((Sn.le (Sn.add (la.down hsa) lq (by decide) (by decide):Sn ((s*2^k)+q) 301) (by decide))),(Yb.down (by omega)),hz1,hz2,rfl⟩ ?_
     rintro kq _ KZ ⟨vx,x,vy,y,arW,bC,WZ,hvy,lx,ly,heq,hlx,rfl⟩
     have yM:=Pl.Ex.size bC
     repeat refine Pl.ay ?_
     refine Pl.ak (by kernel_rfl) ?_
     refine Pl.aG trivial rfl ?_
     refine Pl.az rfl rfl rfl rfl rfl (fun u X=>Pl.enters Tryz.func31 (by kernel_rfl) rfl u X) ?_
     refine Calls.mono (pU _ _ _ y (q*q) hvy (Un.below Vx bC) _ rfl) ?_
     rintro e Nj ⟨rfl,bQ⟩
     have xV:=Pl.Ex.size bQ
     refine ⟨_,rfl,trivial,?_⟩
     by_cases c15:y<(q*q)
     · refine Pl.bV (v:=.bool true) (fun X=>Cm.FH c15 X) trivial rfl rfl rfl rfl rfl rfl ?_
       refine Pl.aj ?_
       repeat refine Pl.ay ?_
       refine Pl.cK rfl ?_
       repeat refine Pl.ay ?_
       refine Pl.bM ?_
       repeat refine Pl.ay ?_
       refine Pl.dM ?_
       repeat refine Pl.ay ?_
       refine Pl.ak (by kernel_rfl) ?_
       have hst:=TG heq hlx c15
       refine Pl.aG trivial rfl ?_
       refine Pl.uR (e := 27) (n:=1) [.int .u32 1] rfl rfl rfl rfl (by kernel_rfl) (fun Y hY=>trivial) ?_
       intro zZ Yc bU vG dD
       have uS:=Pl.Cb.lt dD
       have I4:=Pl.Ex.size bU
       have ag':=Un.one (x:=1) dD rfl (by omega)
       refine Pl.az rfl rfl rfl rfl rfl (fun u X=>Pl.enters Tryz.func108 (by kernel_rfl) rfl u X) ?_
       refine Calls.mono (pW _ _ _ x 1 (Un.below WZ (Pl.Ex.trans bQ bU)) ag' (Sn.le lx (by decide)) (Sn.le (Sn.of (K:=1) (by omega)) (by decide)) hst.1) ?_
       rintro e w20 ⟨v18,rfl,Qg,hE20⟩
       have Nq:=Pl.Ex.size hE20
       refine ⟨_,rfl,trivial,?_⟩
       refine Pl.aG trivial rfl ?_
       refine Pl.aj ?_
       repeat refine Pl.ay ?_
       refine Pl.ak (by kernel_rfl) ?_
       refine Pl.aG trivial rfl ?_
       refine Pl.az rfl rfl rfl rfl rfl (fun u X=>Pl.enters Tryz.func68 (by kernel_rfl) rfl u X) ?_
       refine Calls.mono (FD _ _ (x-1) 1 Qg (by omega) (Sn.le (Sn.down lx (Nat.sub_le _ _)) (by decide))) ?_
       rintro e w21 ⟨v19,rfl,Yd,bF⟩
       have K6:=Pl.Ex.size bF
       refine ⟨_,rfl,trivial,?_⟩
       refine Pl.uR (e := 27) (n:=1) [.int .u32 1] rfl rfl rfl rfl (by kernel_rfl) (fun Y hY=>trivial) ?_
       intro N20 Ye bg Yf lX
       have afx:=Pl.Cb.lt lX
       have I5:=Pl.Ex.size bg
       have ahb:=Un.one (x:=1) lX rfl (by omega)
       refine Pl.az rfl rfl rfl rfl rfl (fun u X=>Pl.enters Tryz.func13 (by kernel_rfl) rfl u X) ?_
       refine Calls.mono (jA _ _ _ ((x-1)*2^1) 1 (Un.below Yd bg) ahb (Sn.le (Sn.mul (Sn.down lx (Nat.sub_le _ _)) (Sn.of (K:=1) (show 2^1<4294967296^1 by decide)) (by decide):Sn ((x-1)*2^1) 303) (by decide)) (Sn.le (Sn.of (K:=1) (by omega)) (by decide)) _ rfl) ?_
       rintro e Yg ⟨v22,rfl,Yh,aY⟩
       have I6:=Pl.Ex.size aY
       refine ⟨_,rfl,trivial,?_⟩
       refine Pl.az rfl rfl rfl rfl rfl (fun u X=>Pl.enters Tryz.func13 (by kernel_rfl) rfl u X) ?_
       refine Calls.mono (jA _ _ _ y (((x-1)*2^1)+1) (Un.below hvy (Pl.Ex.trans bQ (Pl.Ex.trans bU (Pl.Ex.trans hE20 (Pl.Ex.trans bF (Pl.Ex.trans bg aY)))))) Yh (Sn.le ly (by decide)) (Sn.le (Sn.add (Sn.mul (Sn.down lx (Nat.sub_le _ _)) (Sn.of (K:=1) (show 2^1<4294967296^1 by decide)) (by decide):Sn ((x-1)*2^1) 303) (Sn.of (K:=1) (by omega)) (by decide) (by decide):Sn (((x-1)*2^1)+1) 304) (by decide)) _ rfl) ?_
       rintro e w24 ⟨v23,rfl,K8,mg⟩
       have I7:=Pl.Ex.size mg
       refine ⟨_,rfl,trivial,?_⟩
       refine Pl.aG trivial rfl ?_
       refine Pl.aj ?_
       refine Pl.dG ?_
       repeat refine Pl.ay ?_
       refine Pl.jY (k':=(x-1)) [(8,v18),(9,v23),(14,v14)] (Pl.aa rfl (Pl.aa rfl (Pl.aa rfl Pl.aI))) (by omega) ⟨_,(x-1),_,_,rfl,(Pl.Ex.trans bC (Pl.Ex.trans bQ (Pl.Ex.trans bU (Pl.Ex.trans hE20 (Pl.Ex.trans bF (Pl.Ex.trans bg (Pl.Ex.trans aY mg))))))),(Un.below Qg (Pl.Ex.trans bF (Pl.Ex.trans bg (Pl.Ex.trans aY mg)))),K8,(Sn.down lx (Nat.sub_le _ _)),(Yb.down (by have:=hst.2.1;omega)),hst.2.1,hst.2.2,rfl⟩
     · refine Pl.bV (v:=.bool false) (fun X=>Cm.Nh c15 X) trivial rfl rfl rfl rfl rfl rfl ?_
       refine Pl.aj ?_
       repeat refine Pl.ay ?_
       refine Pl.bn rfl ?_
       repeat refine Pl.ay ?_
       refine Pl.lD ?_
       repeat refine Pl.ay ?_
       refine Pl.ak (by kernel_rfl) ?_
       obtain ⟨hf1,hf2⟩:=Rt.Tz heq hlx (Nat.le_of_not_lt c15)
       refine Pl.aG trivial rfl ?_
       refine Pl.az rfl rfl rfl rfl rfl (fun u X=>Pl.enters Tryz.func108 (by kernel_rfl) rfl u X) ?_
       refine Calls.mono (pW _ _ _ y (q*q) (Un.below hvy bQ) (Un.below Vx (Pl.Ex.trans bC bQ)) (Sn.le ly (by decide)) (Sn.le (Sn.mul lq lq (by decide):Sn (q*q) 600) (by decide)) (Nat.le_of_not_lt c15)) ?_
       rintro e Yc ⟨v16,rfl,adp,bU⟩
       have I4:=Pl.Ex.size bU
       refine ⟨_,rfl,trivial,?_⟩
       refine Pl.aG trivial rfl ?_
       refine Pl.aj ?_
       repeat refine Pl.ay ?_
       exact Pl.jy rfl rfl rfl  (⟨_,_,rfl,Un.as (Un.below WZ (Pl.Ex.trans bQ bU)) hf1.symm,Un.as adp (by rw [hf1];exact hf2),(Pl.Ex.trans hE1 (Pl.Ex.trans hE2 (Pl.Ex.trans bJ (Pl.Ex.trans bX (Pl.Ex.trans bE (Pl.Ex.trans bu (Pl.Ex.trans cB (Pl.Ex.trans dL (Pl.Ex.trans fu (Pl.Ex.trans cZ (Pl.Ex.trans dw (Pl.Ex.trans fV (Pl.Ex.trans dh (Pl.Ex.trans bZ (Pl.Ex.trans bO (Pl.Ex.trans bH (Pl.Ex.trans bC (Pl.Ex.trans bQ bU))))))))))))))))))⟩)
 · refine Pl.az rfl rfl rfl rfl rfl (fun u X=>Pl.enters Tryz.func61 (by kernel_rfl) rfl u X) ?_
   refine Calls.mono (arU _ _ a ha c1) ?_
   rintro e w1 ⟨z2,rfl,hE1⟩
   have X0:=Pl.Ex.size hE1
   refine ⟨_,rfl,trivial,?_⟩
   refine Pl.aG trivial rfl ?_
   refine Pl.aj ?_
   repeat refine Pl.ay ?_
   refine Pl.ak (by kernel_rfl) ?_
   refine Pl.aG trivial rfl ?_
   refine Pl.aj ?_
   repeat refine Pl.ay ?_
   refine Pl.bn rfl ?_
   repeat refine Pl.ay ?_
   refine Pl.bM ?_
   repeat refine Pl.ay ?_
   refine Pl.ak (by kernel_rfl) ?_
   have hge:4611686018427387904≤a:=by omega
   obtain ⟨k,hk⟩:∃ k,aU a/4=k:=⟨_,rfl⟩
   have hk5:=alV hge la hk
   clear hsq hsl
   refine Pl.aG trivial rfl ?_
   refine Pl.az rfl rfl rfl rfl rfl (fun u X=>Pl.enters Tryz.func28 (by kernel_rfl) rfl u X) ?_
   refine Calls.mono (vw _ _ a (Un.below ha hE1) (Sn.le la (by decide)) _ rfl) ?_
   rintro e w2 ⟨rfl,hE2⟩
   have WY:=Pl.Ex.size hE2
   refine ⟨_,rfl,trivial,?_⟩
   refine Pl.bV (v:=.int .i64 ((k:Nat):Int)) (fun X=>Pl.Bn.as (yK (a:=aU a) (b:=4) (by omega) (by omega)) (by rw [hk]) X) trivial rfl rfl rfl rfl rfl rfl ?_
   refine Pl.aG trivial rfl ?_
   refine Pl.aj ?_
   repeat refine Pl.ay ?_
   refine Pl.ak (by kernel_rfl) ?_
   refine Pl.aG trivial rfl ?_
   refine Pl.bV (v:=.int .i64 (((2*k):Nat):Int)) (fun X=>FI (a:=2) (b:=k) (by omega) X) trivial rfl rfl rfl rfl rfl rfl ?_
   refine Pl.az rfl rfl rfl rfl rfl (fun u X=>Pl.enters Tryz.func64 (by kernel_rfl) rfl u X) ?_
   refine Calls.mono (XW _ _ a (2*k) (Un.below ha (Pl.Ex.trans hE1 hE2)) (by omega) (Sn.le la (by decide))) ?_
   rintro e w3 ⟨v3,rfl,hv3,bJ⟩
   have TD:=Pl.Ex.size bJ
   refine ⟨_,rfl,trivial,?_⟩
   refine Pl.az rfl rfl rfl rfl rfl (fun u X=>Pl.enters Tryz.func42 (by kernel_rfl) rfl u X) ?_
   refine Calls.mono (ih (a/2^(2*k)) (afw hk5.1 hge) _ _ hv3 (Sn.down la (Nat.div_le_self _ _))) ?_
   rintro e w4 ⟨vs,vr,rfl,hvs,rX,bX⟩
   obtain ⟨t,ht⟩:∃ t,a/2^(2*k)=t:=⟨_,rfl⟩
   have ht0:=Ya hge hk5
   rw [ht] at ht0 hvs rX
   obtain ⟨s,hs⟩:∃ s,Rt.kr t 2=s:=⟨_,rfl⟩
   rw [hs] at hvs rX
   obtain ⟨r,hr⟩:∃ r,t-s*s=r:=⟨_,rfl⟩
   rw [hr] at rX
   obtain ⟨hsr,hs0,hra,hsa,hna⟩:=TF ht hs hr ht0
   have lt_:Sn t 300:=by rw [← ht];exact la.down (Nat.div_le_self _ _)
   have ls:Sn s 300:=by rw [← hs];exact lt_.down (Rt.KX _ (by decide))
   have lr:Sn r 300:=lt_.down (by omega)
   have TH:=Pl.Ex.size bX
   refine ⟨_,rfl,trivial,?_⟩
   refine Pl.aG trivial rfl ?_
   refine Pl.aj ?_
   repeat refine Pl.ay ?_
   refine Pl.ak (by kernel_rfl) ?_
   refine Pl.aG trivial rfl ?_
   refine Pl.az rfl rfl rfl rfl rfl (fun u X=>Pl.enters Tryz.func68 (by kernel_rfl) rfl u X) ?_
   refine Calls.mono (FD _ _ r k rX (by omega) (Sn.le lr (by decide))) ?_
   rintro e w5 ⟨v4,rfl,hv4,bE⟩
   have Mw:=Pl.Ex.size bE
   refine ⟨_,rfl,trivial,?_⟩
   refine Pl.aG trivial rfl ?_
   refine Pl.az rfl rfl rfl rfl rfl (fun u X=>Pl.enters Tryz.func64 (by kernel_rfl) rfl u X) ?_
   refine Calls.mono (XW _ _ a k (Un.below ha (Pl.Ex.trans hE1 (Pl.Ex.trans hE2 (Pl.Ex.trans bJ (Pl.Ex.trans bX bE))))) (by omega) (Sn.le la (by decide))) ?_
   rintro e w6 ⟨v5,rfl,hv5,bu⟩
   have Cj:=Pl.Ex.size bu
   refine ⟨_,rfl,trivial,?_⟩
   refine Pl.aG trivial rfl ?_
   refine Pl.az rfl rfl rfl rfl rfl (fun u X=>Pl.enters Tryz.func107 (by kernel_rfl) rfl u X) ?_
   refine Calls.mono (uj _ _ (a/2^k) k hv5 (Sn.down la (Nat.div_le_self _ _)) (by omega)) ?_
   rintro e w7 ⟨v6,rfl,hv6,cB⟩
   have zS:=Pl.Ex.size cB
   refine ⟨_,rfl,trivial,?_⟩
   refine Pl.az rfl rfl rfl rfl rfl (fun u X=>Pl.enters Tryz.func13 (by kernel_rfl) rfl u X) ?_
   refine Calls.mono (jA _ _ _ (r*2^k) ((a/2^k)%2^k) (Un.below hv4 (Pl.Ex.trans bu cB)) hv6 (Sn.le (la.down hra) (by decide)) (Sn.le (Sn.down (Sn.down la (Nat.div_le_self _ _)) (Nat.mod_le _ _)) (by decide)) _ rfl) ?_
   rintro e w8 ⟨v7,rfl,hv7,dL⟩
   have xg:=Pl.Ex.size dL
   refine ⟨_,rfl,trivial,?_⟩
   refine Pl.aG trivial rfl ?_
   refine Pl.aj ?_
   repeat refine Pl.ay ?_
   refine Pl.ak (by kernel_rfl) ?_
   refine Pl.aG trivial rfl ?_
   refine Pl.az rfl rfl rfl rfl rfl (fun u X=>Pl.enters Tryz.func68 (by kernel_rfl) rfl u X) ?_
   refine Calls.mono (FD _ _ s 1 (Un.below hvs (Pl.Ex.trans bE (Pl.Ex.trans bu (Pl.Ex.trans cB dL)))) (by omega) (Sn.le ls (by decide))) ?_
   rintro e w9 ⟨v8,rfl,DN,fu⟩
   have PV:=Pl.Ex.size fu
   refine ⟨_,rfl,trivial,?_⟩
   refine Pl.az rfl rfl rfl rfl rfl (fun u X=>Pl.enters Tryz.func18 (by kernel_rfl) rfl u X) ?_
   refine Calls.mono (iI _ _ _ ((r*2^k)+((a/2^k)%2^k)) (s*2^1) _ _ (Un.below hv7 fu) DN (Sn.le (la.down hna) (by decide)) (Sn.le (Sn.mul ls (Sn.of (K:=1) (show 2^1<4294967296^1 by decide)) (by decide):Sn (s*2^1) 301) (by decide)) (by omega) rfl rfl) ?_
   rintro e uY ⟨⟨vq,vu,rfl,yL,hvu⟩,cZ⟩
   obtain ⟨q,hq⟩:∃ q,((r*2^k)+((a/2^k)%2^k))/(2*s)=q:=⟨_,rfl⟩
   obtain ⟨u,hu⟩:∃ u,((r*2^k)+((a/2^k)%2^k))%(2*s)=u:=⟨_,rfl⟩
   rw [show s*2^1=2*s by omega] at yL hvu
   rw [hq] at yL
   rw [hu] at hvu
   have lq:Sn q 300:=by rw [← hq];exact (la.down hna).down (Nat.div_le_self _ _)
   have hul:u<2*s:=by rw [← hu];exact Nat.mod_lt _ (by omega)
   obtain ⟨hz1,hz2⟩:=Rt.zim ht hsr hq hu hs0
   have lub:Sn (u*2^k) 301:=Sn.down (Sn.mul (Sn.of (K:=1) (show 2<4294967296^1 by decide)) (la.down hsa) (by decide)) (by rw [← Nat.mul_assoc];exact Nat.mul_le_mul_right _ (by omega))
   have Yb:Sn (a+q*q) 601:=Sn.add la (Sn.mul lq lq (by decide):Sn (q*q) 600) (by decide) (by decide)
   have yH:=Pl.Ex.size cZ
   refine ⟨_,rfl,trivial,?_⟩
   refine Pl.aG trivial rfl ?_
   refine Pl.aj ?_
   repeat refine Pl.ay ?_
   refine Pl.ak (by kernel_rfl) ?_
   refine Pl.aG trivial rfl ?_
   refine Pl.az rfl rfl rfl rfl rfl (fun u X=>Pl.enters Tryz.func68 (by kernel_rfl) rfl u X) ?_
   refine Calls.mono (FD _ _ s k (Un.below hvs (Pl.Ex.trans bE (Pl.Ex.trans bu (Pl.Ex.trans cB (Pl.Ex.trans dL (Pl.Ex.trans fu cZ)))))) (by omega) (Sn.le ls (by decide))) ?_
   rintro e BU ⟨v9,rfl,xk,dw⟩
   have xR:=Pl.Ex.size dw
   refine ⟨_,rfl,trivial,?_⟩
   refine Pl.aG trivial rfl ?_
   refine Pl.az rfl rfl rfl rfl rfl (fun u X=>Pl.enters Tryz.func13 (by kernel_rfl) rfl u X) ?_
   refine Calls.mono (jA _ _ _ (s*2^k) q xk (Un.below yL dw) (Sn.le (la.down hsa) (by decide)) (Sn.le lq (by decide)) _ rfl) ?_
   rintro e w12 ⟨v10,rfl,nP,fV⟩
   have Fw:=Pl.Ex.size fV
   refine ⟨_,rfl,trivial,?_⟩
   refine Pl.aG trivial rfl ?_
   refine Pl.aj ?_
   repeat refine Pl.ay ?_
   refine Pl.ak (by kernel_rfl) ?_
   refine Pl.aG trivial rfl ?_
   refine Pl.az rfl rfl rfl rfl rfl (fun u X=>Pl.enters Tryz.func68 (by kernel_rfl) rfl u X) ?_
   refine Calls.mono (FD _ _ u k (Un.below hvu (Pl.Ex.trans dw fV)) (by omega) (Sn.le (Sn.down (Sn.mul (Sn.of (K:=1) (show 2<4294967296^1 by decide)) ls (by decide)) (Nat.le_of_lt hul):Sn u 301) (by decide))) ?_
   rintro e IZ ⟨v11,rfl,rO,dh⟩
   have Fx:=Pl.Ex.size dh
   refine ⟨_,rfl,trivial,?_⟩
   refine Pl.aG trivial rfl ?_
   refine Pl.az rfl rfl rfl rfl rfl (fun u X=>Pl.enters Tryz.func107 (by kernel_rfl) rfl u X) ?_
   refine Calls.mono (uj _ _ a k (Un.below ha (Pl.Ex.trans hE1 (Pl.Ex.trans hE2 (Pl.Ex.trans bJ (Pl.Ex.trans bX (Pl.Ex.trans bE (Pl.Ex.trans bu (Pl.Ex.trans cB (Pl.Ex.trans dL (Pl.Ex.trans fu (Pl.Ex.trans cZ (Pl.Ex.trans dw (Pl.Ex.trans fV dh))))))))))))) la (by omega)) ?_
   rintro e Qf ⟨v12,rfl,pX,bZ⟩
   have FK:=Pl.Ex.size bZ
   refine ⟨_,rfl,trivial,?_⟩
   refine Pl.az rfl rfl rfl rfl rfl (fun u X=>Pl.enters Tryz.func13 (by kernel_rfl) rfl u X) ?_
   refine Calls.mono (jA _ _ _ (u*2^k) (a%2^k) (Un.below rO bZ) pX (Sn.le lub (by decide)) (Sn.le (Sn.down la (Nat.mod_le _ _)) (by decide)) _ rfl) ?_
   rintro e Ph ⟨v13,rfl,nk,bO⟩
   have Co:=Pl.Ex.size bO
   refine ⟨_,rfl,trivial,?_⟩
   refine Pl.aG trivial rfl ?_
   refine Pl.aj ?_
   repeat refine Pl.ay ?_
   refine Pl.ak (by kernel_rfl) ?_
   refine Pl.aG trivial rfl ?_
   refine Pl.az rfl rfl rfl rfl rfl (fun u X=>Pl.enters Tryz.func17 (by kernel_rfl) rfl u X) ?_
   refine Calls.mono (mulN _ _ _ q q _ (Un.below yL (Pl.Ex.trans dw (Pl.Ex.trans fV (Pl.Ex.trans dh (Pl.Ex.trans bZ bO))))) (Un.below yL (Pl.Ex.trans dw (Pl.Ex.trans fV (Pl.Ex.trans dh (Pl.Ex.trans bZ bO))))) (Sn.le lq (by decide)) (Sn.le lq (by decide)) rfl) ?_
   rintro e w16 ⟨v14,rfl,Vx,bH⟩
   have xU:=Pl.Ex.size bH
   refine ⟨_,rfl,trivial,?_⟩
   refine Pl.aG trivial rfl ?_
   refine Pl.aj ?_
   repeat refine Pl.ay ?_
   refine Pl.dM ?_
   repeat refine Pl.ay ?_
   refine Pl.eF [(8,v10),(9,v13),(14,v14)] (Pl.aa rfl (Pl.aa rfl (Pl.aa rfl Pl.aI))) ?_
   repeat refine Pl.ay ?_
   refine Pl.pV (fun kq l' w'=>∃ vx x vy y,x=kq∧Pl.Ex w16 w'∧(Un w' vx x)∧(Un w' vy y)∧(Sn x 302)∧(Sn y 601)∧(x*x+y=a+q*q)∧(a<(x+1)*(x+1))∧l'=[(8,vx),(9,vy),(14,v14)]) _ ⟨_,_,_,_,rfl,Pl.Ex.refl _,(Un.below nP (Pl.Ex.trans dh (Pl.Ex.trans bZ (Pl.Ex.trans bO bH)))),(Un.below nk bH),((Sn.le (Sn.add (la.down hsa) lq (by decide) (by decide):Sn ((s*2^k)+q) 301) (by decide))),(Yb.down (by omega)),hz1,hz2,rfl⟩ ?_
   rintro kq _ KZ ⟨vx,x,vy,y,arW,bC,WZ,hvy,lx,ly,heq,hlx,rfl⟩
   have yM:=Pl.Ex.size bC
   repeat refine Pl.ay ?_
   refine Pl.ak (by kernel_rfl) ?_
   refine Pl.aG trivial rfl ?_
   refine Pl.az rfl rfl rfl rfl rfl (fun u X=>Pl.enters Tryz.func31 (by kernel_rfl) rfl u X) ?_
   refine Calls.mono (pU _ _ _ y (q*q) hvy (Un.below Vx bC) _ rfl) ?_
   rintro e Nj ⟨rfl,bQ⟩
   have xV:=Pl.Ex.size bQ
   refine ⟨_,rfl,trivial,?_⟩
   by_cases c15:y<(q*q)
   · refine Pl.bV (v:=.bool true) (fun X=>Cm.FH c15 X) trivial rfl rfl rfl rfl rfl rfl ?_
     refine Pl.aj ?_
     repeat refine Pl.ay ?_
     refine Pl.cK rfl ?_
     repeat refine Pl.ay ?_
     refine Pl.bM ?_
     repeat refine Pl.ay ?_
     refine Pl.dM ?_
     repeat refine Pl.ay ?_
     refine Pl.ak (by kernel_rfl) ?_
     have hst:=TG heq hlx c15
     refine Pl.aG trivial rfl ?_
     refine Pl.uR (e := 27) (n:=1) [.int .u32 1] rfl rfl rfl rfl (by kernel_rfl) (fun Y hY=>trivial) ?_
     intro zZ Yc bU vG dD
     have uS:=Pl.Cb.lt dD
     have I4:=Pl.Ex.size bU
     have ag':=Un.one (x:=1) dD rfl (by omega)
     refine Pl.az rfl rfl rfl rfl rfl (fun u X=>Pl.enters Tryz.func108 (by kernel_rfl) rfl u X) ?_
     refine Calls.mono (pW _ _ _ x 1 (Un.below WZ (Pl.Ex.trans bQ bU)) ag' (Sn.le lx (by decide)) (Sn.le (Sn.of (K:=1) (by omega)) (by decide)) hst.1) ?_
     rintro e w20 ⟨v18,rfl,Qg,hE20⟩
     have Nq:=Pl.Ex.size hE20
     refine ⟨_,rfl,trivial,?_⟩
     refine Pl.aG trivial rfl ?_
     refine Pl.aj ?_
     repeat refine Pl.ay ?_
     refine Pl.ak (by kernel_rfl) ?_
     refine Pl.aG trivial rfl ?_
     refine Pl.az rfl rfl rfl rfl rfl (fun u X=>Pl.enters Tryz.func68 (by kernel_rfl) rfl u X) ?_
     refine Calls.mono (FD _ _ (x-1) 1 Qg (by omega) (Sn.le (Sn.down lx (Nat.sub_le _ _)) (by decide))) ?_
     rintro e w21 ⟨v19,rfl,Yd,bF⟩
     have K6:=Pl.Ex.size bF
     refine ⟨_,rfl,trivial,?_⟩
     refine Pl.uR (e := 27) (n:=1) [.int .u32 1] rfl rfl rfl rfl (by kernel_rfl) (fun Y hY=>trivial) ?_
     intro N20 Ye bg Yf lX
     have afx:=Pl.Cb.lt lX
     have I5:=Pl.Ex.size bg
     have ahb:=Un.one (x:=1) lX rfl (by omega)
     refine Pl.az rfl rfl rfl rfl rfl (fun u X=>Pl.enters Tryz.func13 (by kernel_rfl) rfl u X) ?_
     refine Calls.mono (jA _ _ _ ((x-1)*2^1) 1 (Un.below Yd bg) ahb (Sn.le (Sn.mul (Sn.down lx (Nat.sub_le _ _)) (Sn.of (K:=1) (show 2^1<4294967296^1 by decide)) (by decide):Sn ((x-1)*2^1) 303) (by decide)) (Sn.le (Sn.of (K:=1) (by omega)) (by decide)) _ rfl) ?_
     rintro e Yg ⟨v22,rfl,Yh,aY⟩
     have I6:=Pl.Ex.size aY
     refine ⟨_,rfl,trivial,?_⟩
     refine Pl.az rfl rfl rfl rfl rfl (fun u X=>Pl.enters Tryz.func13 (by kernel_rfl) rfl u X) ?_
     refine Calls.mono (jA _ _ _ y (((x-1)*2^1)+1) (Un.below hvy (Pl.Ex.trans bQ (Pl.Ex.trans bU (Pl.Ex.trans hE20 (Pl.Ex.trans bF (Pl.Ex.trans bg aY)))))) Yh (Sn.le ly (by decide)) (Sn.le (Sn.add (Sn.mul (Sn.down lx (Nat.sub_le _ _)) (Sn.of (K:=1) (show 2^1<4294967296^1 by decide)) (by decide):Sn ((x-1)*2^1) 303) (Sn.of (K:=1) (by omega)) (by decide) (by decide):Sn (((x-1)*2^1)+1) 304) (by decide)) _ rfl) ?_
     rintro e w24 ⟨v23,rfl,K8,mg⟩
     have I7:=Pl.Ex.size mg
     refine ⟨_,rfl,trivial,?_⟩
     refine Pl.aG trivial rfl ?_
     refine Pl.aj ?_
     refine Pl.dG ?_
     repeat refine Pl.ay ?_
     refine Pl.jY (k':=(x-1)) [(8,v18),(9,v23),(14,v14)] (Pl.aa rfl (Pl.aa rfl (Pl.aa rfl Pl.aI))) (by omega) ⟨_,(x-1),_,_,rfl,(Pl.Ex.trans bC (Pl.Ex.trans bQ (Pl.Ex.trans bU (Pl.Ex.trans hE20 (Pl.Ex.trans bF (Pl.Ex.trans bg (Pl.Ex.trans aY mg))))))),(Un.below Qg (Pl.Ex.trans bF (Pl.Ex.trans bg (Pl.Ex.trans aY mg)))),K8,(Sn.down lx (Nat.sub_le _ _)),(Yb.down (by have:=hst.2.1;omega)),hst.2.1,hst.2.2,rfl⟩
   · refine Pl.bV (v:=.bool false) (fun X=>Cm.Nh c15 X) trivial rfl rfl rfl rfl rfl rfl ?_
     refine Pl.aj ?_
     repeat refine Pl.ay ?_
     refine Pl.bn rfl ?_
     repeat refine Pl.ay ?_
     refine Pl.lD ?_
     repeat refine Pl.ay ?_
     refine Pl.ak (by kernel_rfl) ?_
     obtain ⟨hf1,hf2⟩:=Rt.Tz heq hlx (Nat.le_of_not_lt c15)
     refine Pl.aG trivial rfl ?_
     refine Pl.az rfl rfl rfl rfl rfl (fun u X=>Pl.enters Tryz.func108 (by kernel_rfl) rfl u X) ?_
     refine Calls.mono (pW _ _ _ y (q*q) (Un.below hvy bQ) (Un.below Vx (Pl.Ex.trans bC bQ)) (Sn.le ly (by decide)) (Sn.le (Sn.mul lq lq (by decide):Sn (q*q) 600) (by decide)) (Nat.le_of_not_lt c15)) ?_
     rintro e Yc ⟨v16,rfl,adp,bU⟩
     have I4:=Pl.Ex.size bU
     refine ⟨_,rfl,trivial,?_⟩
     refine Pl.aG trivial rfl ?_
     refine Pl.aj ?_
     repeat refine Pl.ay ?_
     exact Pl.jy rfl rfl rfl  (⟨_,_,rfl,Un.as (Un.below WZ (Pl.Ex.trans bQ bU)) hf1.symm,Un.as adp (by rw [hf1];exact hf2),(Pl.Ex.trans hE1 (Pl.Ex.trans hE2 (Pl.Ex.trans bJ (Pl.Ex.trans bX (Pl.Ex.trans bE (Pl.Ex.trans bu (Pl.Ex.trans cB (Pl.Ex.trans dL (Pl.Ex.trans fu (Pl.Ex.trans cZ (Pl.Ex.trans dw (Pl.Ex.trans fV (Pl.Ex.trans dh (Pl.Ex.trans bZ (Pl.Ex.trans bO (Pl.Ex.trans bH (Pl.Ex.trans bC (Pl.Ex.trans bQ bU))))))))))))))))))⟩)
end Go.Proofs.YtfhcmggpojhegaaGreatDoor
