/- Rounded by a direction. -/
import Derived.Test.YtdpmbgomcjnohaaGreatDoorBay

namespace Go.Proofs.YtdpmbgomcjnohaaGreatDoor
open Go.RowKit 
set_option linter.all false
set_option maxRecDepth 100000
set_option maxHeartbeats 8000000
theorem Cr (w:World)  :
  Calls Tryz.prog 85 #[] w fun e w'=>∃ N1 N2,e = .returned (.agg (ag' N1 N2).toArray)∧Pl.Cb w' N1 90 [.func (.func 118) #[] #[]]∧Pl.Cb w' N2 90 [.func (.func 119) #[] #[]]∧Pl.Ex w w':=by
 refine Pl.bL (n:=12) (vs:=[]) Tryz.func85 rfl (by kernel_rfl) (by simp) ?_
 repeat refine Pl.ay ?_
 refine Pl.aB (by kernel_rfl) ?_
 refine Pl.aU (z:=.agg #[.nilFunc,.nilFunc,.nilFunc,.nilFunc,.nilFunc]) (by kernel_rfl) rfl rfl rfl rfl (fun Y hY=>trivial) ?_
 intro N1 w1 hE1 eP aC
 have ig:=Pl.Cb.lt aC
 have mH:=Pl.Ex.size hE1
 replace aC:Pl.Cb w1 N1 93 [.nilFunc,.nilFunc,.nilFunc,.nilFunc,.nilFunc]:=aC
 refine Pl.af ?_
 repeat refine Pl.ay ?_
 refine Pl.aB (by kernel_rfl) ?_
 refine Pl.aU (z:=.nilFunc) (by kernel_rfl) rfl rfl rfl rfl (fun Y hY=>trivial) ?_
 intro N2 w2 hE2 gD aD
 have iB:=Pl.Cb.lt aD
 have mY:=Pl.Ex.size hE2
 replace aD:Pl.Cb w2 N2 90 [.nilFunc]:=aD
 refine Pl.KZ (j:=0) (u:=.func (.func 118) #[] #[]) aD (by simp) (by kernel_rfl) rfl rfl rfl rfl rfl rfl rfl rfl (fun Y hY=>trivial) ?_
 intro w3 Fa dG
 have aO:=Pl.Ex.xs hE2 Fa (by omega)
 replace dG:Pl.Cb w3 N2 90 [.func (.func 118) #[] #[]]:=dG
 have mZ:=Pl.Xs.size Fa
 refine Pl.af ?_
 repeat refine Pl.ay ?_
 refine Pl.aB (by kernel_rfl) ?_
 refine Pl.aU (z:=.nilFunc) (by kernel_rfl) rfl rfl rfl rfl (fun Y hY=>trivial) ?_
 intro N3 w4 aR jP aL
 have iJ:=Pl.Cb.lt aL
 have l9:=Pl.Ex.size aR
 replace aL:Pl.Cb w4 N3 90 [.nilFunc]:=aL
 refine Pl.KZ (j:=0) (u:=.func (.func 119) #[] #[]) aL (by simp) (by kernel_rfl) rfl rfl rfl rfl rfl rfl rfl rfl (fun Y hY=>trivial) ?_
 intro w5 kF dX
 have aP:=Pl.Ex.xs aR kF (by omega)
 replace dX:Pl.Cb w5 N3 90 [.func (.func 119) #[] #[]]:=dX
 have jY:=Pl.Xs.size kF
 refine Pl.af ?_
 repeat refine Pl.ay ?_
 refine Pl.aB (by kernel_rfl) ?_
 refine Pl.bC (.agg #[.func (.func 120) #[] #[]]) trivial rfl rfl rfl rfl (fun X=>by kernel_rfl) ?_
 refine Pl.bC (.agg #[.func (.func 121) #[] #[]]) trivial rfl rfl rfl rfl (fun X=>by kernel_rfl) ?_
 refine Pl.Ed trivial rfl rfl rfl rfl rfl rfl ?_
 refine Pl.bC (.agg #[.func (.func 122) #[] #[.pointer (some ⟨N2,0,none⟩)]]) trivial rfl rfl rfl rfl (fun X=>by kernel_rfl) ?_
 refine Pl.Ed trivial rfl rfl rfl rfl rfl rfl ?_
 refine Pl.bC (.agg #[.func (.func 123) #[] #[.pointer (some ⟨N2,0,none⟩)]]) trivial rfl rfl rfl rfl (fun X=>by kernel_rfl) ?_
 refine Pl.Ed trivial rfl rfl rfl rfl rfl rfl ?_
 refine Pl.bC (.agg #[.func (.func 124) #[] #[.pointer (some ⟨N3,0,none⟩)]]) trivial rfl rfl rfl rfl (fun X=>by kernel_rfl) ?_
 refine Pl.bC (.agg #[.func (.func 120) #[] #[],.func (.func 121) #[] #[],.func (.func 122) #[] #[.pointer (some ⟨N2,0,none⟩)],.func (.func 123) #[] #[.pointer (some ⟨N2,0,none⟩)],.func (.func 124) #[] #[.pointer (some ⟨N3,0,none⟩)]]) trivial rfl rfl rfl rfl (fun X=>by kernel_rfl) ?_
 refine Pl.bg (new:=[.func (.func 120) #[] #[],.func (.func 121) #[] #[],.func (.func 122) #[] #[.pointer (some ⟨N2,0,none⟩)],.func (.func 123) #[] #[.pointer (some ⟨N2,0,none⟩)],.func (.func 124) #[] #[.pointer (some ⟨N3,0,none⟩)]]) (Pl.Cb.ex aC (Pl.Ex.trans aO aP)) (by kernel_rfl) rfl (by simp [Value.oneCell']) rfl rfl rfl rfl rfl rfl (fun Y hY=>trivial) ?_
 intro w6 lS lF
 have aM:=Pl.Ex.xs (Pl.Ex.trans hE1 (Pl.Ex.trans aO aP)) lS (by omega)
 have jr:=Pl.Xs.size lS
 have aeA:=Pl.Cb.xs (Pl.Cb.ex dG aP) lS (by simp;omega)
 have qR:=Pl.Cb.xs dX lS (by simp;omega)
 refine Pl.af ?_
 repeat refine Pl.ay ?_
 exact Pl.cO rfl rfl lF Tryz.underlying93 rfl (by kernel_rfl) (⟨N2,N3,rfl,aeA,qR,aM⟩)
theorem X5 {n d k:Int} {j:Nat} (hj:j<5) (hd:0<d) (hk:jy (shl (n%d) 1) d=k):Dy.BX j ((n:Rat)/(d:Rat))=if upB j (n/d) (decide (0<n%d)) k then n/d+1 else n/d:=by
 have e1:shl (n%d) 1=2*(n%d):=by
  rw [show (1:Int)=((1:Nat):Int) from rfl,vL];omega
 rw [e1] at hk
 have hc:=Ce hk
 have ha:=Dy.XQ (n:=n) hd
 have hm:=Dy.UG (n:=n) hd
 rw [Dy.rU hd] at ha hm
 rw [← Dy.rU hd]
 refine Dy.aes hj _ _ ?_ ?_ ?_ ?_ ?_
 · rintro rfl;rfl
 · rintro rfl;rw [Dy.rU hd,← ha];simp [upB]
 · rintro rfl;rw [Dy.rU hd,← ha];simp [upB]
 · rintro rfl;rw [Dy.rU hd,← ha];simp [upB]
 · rintro rfl
   rw [Dy.rU hd,← hm.1,← hm.2]
   simp only [upB,Bool.or_eq_true,Bool.and_eq_true,decide_eq_true_eq]
   constructor
   · rintro (h | ⟨h,h2⟩)
     · exact .inl (by omega)
     · exact .inr ⟨by omega,h2⟩
   · rintro (h | ⟨h,h2⟩)
     · exact .inl (by omega)
     · exact .inr ⟨by omega,h2⟩
theorem I7 (w:World) (j:Nat) (hj:j<5) (Na Nb:Nat) (ka:Pl.Cb w Na 90 [.func (.func 118) #[] #[]]) (kb:Pl.Cb w Nb 90 [.func (.func 119) #[] #[]]) (vn vd:Value) (n d:Int) (hn:Zn w vn n) (hd_:Zn w vd d) (L M:Nat) (ln:Sz n L) (ld:Sz d M) (hL:L≤1000) (hM:M≤1000) (hd:0<d) :
  Calls Tryz.prog 87 #[.agg #[R4 Na Nb j],vn,vd] w fun e w'=>∃ u,e = .returned u∧Zn w' u (Dy.BX j ((n:Rat)/(d:Rat)))∧Pl.Ex w w':=by
 obtain ⟨An,cn,rfl,un⟩:=hn
 obtain ⟨Ad,cd,rfl,ud⟩:=hd_
 have hd0:d≠0:=by omega
 obtain ⟨q,hq⟩:∃ q,n/d=q:=⟨_,rfl⟩
 obtain ⟨r,hr⟩:∃ r,n%d=r:=⟨_,rfl⟩
 have lq:Sz q L:=by rw [← hq];exact Sz.div ln
 have lr:Sz r M:=by rw [← hr];exact Sz.mod ld hd0
 refine Pl.bL (n:=35) (vs:=[.agg #[(R4 Na Nb j)],.agg #[.bool (decide (n<0)),.slice An (limbs (Int.natAbs n)).length cn],.agg #[.bool (decide (d<0)),.slice Ad (limbs (Int.natAbs d)).length cd]]) Tryz.func87 rfl (by kernel_rfl) (by simp) ?_
 repeat refine Pl.ay ?_
 refine Pl.aB (by kernel_rfl) ?_
 refine Pl.dN (cs:=[(R4 Na Nb j)]) rfl rfl rfl rfl rfl rfl (fun Y hY=>trivial) ?_
 intro N1 w1 hE1 eP aC
 have ig:=Pl.Cb.lt aC
 have mH:=Pl.Ex.size hE1
 refine Pl.dN (cs:=[.bool (decide (n<0)),.slice An (limbs (Int.natAbs n)).length cn]) rfl rfl rfl rfl rfl rfl (fun Y hY=>trivial) ?_
 intro N2 w2 hE2 gD aD
 have iB:=Pl.Cb.lt aD
 have mY:=Pl.Ex.size hE2
 refine Pl.dN (cs:=[.bool (decide (d<0)),.slice Ad (limbs (Int.natAbs d)).length cd]) rfl rfl rfl rfl rfl rfl (fun Y hY=>trivial) ?_
 intro N3 w3 aO jP aL
 have iJ:=Pl.Cb.lt aL
 have mZ:=Pl.Ex.size aO
 refine Pl.aU (z:=.agg #[.bool false,.slice none 0 0]) (by kernel_rfl) rfl rfl rfl rfl (fun Y hY=>trivial) ?_
 intro N4 w4 aR iG aF
 have fE:=Pl.Cb.lt aF
 have l9:=Pl.Ex.size aR
 replace aF:Pl.Cb w4 N4 24 [.bool false,.slice none 0 0]:=aF
 refine Pl.af ?_
 repeat refine Pl.ay ?_
 refine Pl.aB (by kernel_rfl) ?_
 refine Pl.dJ (part:=[.bool (decide (n<0)),.slice An (limbs (Int.natAbs n)).length cn]) (Pl.Cb.ex aD (Pl.Ex.trans aO aR)) rfl Tryz.underlying24 rfl (by kernel_rfl) trivial rfl rfl rfl rfl rfl ?_
 refine Pl.dJ (part:=[.bool (decide (d<0)),.slice Ad (limbs (Int.natAbs d)).length cd]) (Pl.Cb.ex aL aR) rfl Tryz.underlying24 rfl (by kernel_rfl) trivial rfl rfl rfl rfl rfl ?_
 refine Pl.ah rfl rfl rfl rfl rfl (fun u X=>Pl.enters Tryz.func126 (by kernel_rfl) rfl u X) ?_
 refine Calls.mono (aed _ _ _ n d (Zn.of (Un.below un (Pl.Ex.trans hE1 (Pl.Ex.trans hE2 (Pl.Ex.trans aO aR))))) (Zn.of (Un.below ud (Pl.Ex.trans hE1 (Pl.Ex.trans hE2 (Pl.Ex.trans aO aR))))) (ln.le (by omega)) (ld.le (by omega)) hd0 _ _ rfl rfl) ?_
 rintro e w5 ⟨⟨vq,vr,rfl,zJ,Ma⟩,aP⟩
 rw [hq] at zJ
 rw [hr] at Ma
 obtain ⟨A5,c6,rfl,u7⟩:=zJ
 obtain ⟨A8,c9,rfl,rW⟩:=Ma
 have jY:=Pl.Ex.size aP
 refine ⟨_,rfl,trivial,?_⟩
 refine Pl.aG trivial rfl ?_
 refine Pl.aU (z:=.agg #[.bool false,.slice none 0 0]) (by kernel_rfl) rfl rfl rfl rfl (fun Y hY=>trivial) ?_
 intro mo w6 aM AL gL
 have gp:=Pl.Cb.lt gL
 have jr:=Pl.Ex.size aM
 replace gL:Pl.Cb w6 mo 24 [.bool false,.slice none 0 0]:=gL
 refine Pl.aU (z:=.agg #[.bool false,.slice none 0 0]) (by kernel_rfl) rfl rfl rfl rfl (fun Y hY=>trivial) ?_
 intro Cy w7 aH Dr jc
 have IM:=Pl.Cb.lt jc
 have iU:=Pl.Ex.size aH
 replace jc:Pl.Cb w7 Cy 24 [.bool false,.slice none 0 0]:=jc
 refine Pl.bg (new:=[.bool (decide (q<0)),.slice A5 (limbs (Int.natAbs q)).length c6]) (Pl.Cb.ex gL aH) (by kernel_rfl) rfl (by simp [Value.oneCell']) rfl rfl rfl rfl rfl rfl (fun Y hY=>trivial) ?_
 intro w8 eX Cj
 have bu:=Pl.Ex.xs (Pl.Ex.trans aM aH) eX (by omega)
 have mh:=Pl.Xs.size eX
 have abb:=Pl.Cb.xs jc eX (by simp;omega)
 refine Pl.bg (new:=[.bool (decide (r<0)),.slice A8 (limbs (Int.natAbs r)).length c9]) abb (by kernel_rfl) rfl (by simp [Value.oneCell']) rfl rfl rfl rfl rfl rfl (fun Y hY=>trivial) ?_
 intro w9 gH JN
 have dh:=Pl.Ex.xs bu gH (by omega)
 have pG:=Pl.Xs.size gH
 have Gp:=Pl.Cb.xs Cj gH (by simp;omega)
 refine Pl.aG trivial rfl ?_
 refine Pl.af ?_
 repeat refine Pl.ay ?_
 refine Pl.Cg (fun l' w'=>∃ (Ns:Nat) (ko:Int),Pl.Ex w9 w'∧(Pl.Cb w' Ns 116 [.bool (decide (q<0)),.slice A5 (limbs (Int.natAbs q)).length c6,.bool (decide (0<r)),.int .i64 ko])∧(w9.heap.size≤Ns)∧(jy (shl r 1) d=ko)∧l'=[(3,.pointer (some ⟨N1,0,none⟩)),(4,.pointer (some ⟨N2,0,none⟩)),(5,.pointer (some ⟨N3,0,none⟩)),(6,.pointer (some ⟨N4,0,none⟩)),(7,.pointer (some ⟨mo,0,none⟩)),(8,.pointer (some ⟨Cy,0,none⟩)),(10,.pointer (some ⟨Ns,0,none⟩))]) ?_ fun NI=>?_
 · rintro _ qD ⟨Ns,ko,bf,kNs,hNs,hko,rfl⟩
   have mD:=Pl.Ex.size bf
   repeat refine Pl.ay ?_
   refine Pl.aB (by kernel_rfl) ?_
   refine Pl.bC (.pointer (some ⟨N1,0,none⟩)) trivial rfl rfl rfl rfl (fun X=>by kernel_rfl) ?_
   refine Pl.eT (v:=(R4 Na Nb j)) Tryz.underlying90 rfl (Pl.Cb.at (j:=0) (Pl.Cb.ex aC (Pl.Ex.trans hE2 (Pl.Ex.trans aO (Pl.Ex.trans aR (Pl.Ex.trans aP (Pl.Ex.trans dh bf)))))) rfl) trivial rfl rfl rfl rfl rfl ?_
   refine Pl.dJ (part:=[.bool (decide (q<0)),.slice A5 (limbs (Int.natAbs q)).length c6,.bool (decide (0<r)),.int .i64 ko]) kNs rfl Tryz.underlying116 rfl (by kernel_rfl) trivial rfl rfl rfl rfl rfl ?_
   refine Pl.zG rfl rfl rfl rfl rfl rfl (R5 j hj) ?_
   refine Calls.mono (PL _ j hj Na Nb (Pl.Cb.ex ka (Pl.Ex.trans hE1 (Pl.Ex.trans hE2 (Pl.Ex.trans aO (Pl.Ex.trans aR (Pl.Ex.trans aP (Pl.Ex.trans dh bf))))))) (Pl.Cb.ex kb (Pl.Ex.trans hE1 (Pl.Ex.trans hE2 (Pl.Ex.trans aO (Pl.Ex.trans aR (Pl.Ex.trans aP (Pl.Ex.trans dh bf))))))) (decide (0<r)) A5 c6 q (Un.below u7 (Pl.Ex.trans dh bf)) ko) ?_
   rintro e uV ⟨rfl,bI⟩
   obtain ⟨b,hb⟩:∃ b,upB j q (decide (0<r)) ko=b:=⟨_,rfl⟩
   rw [hb]
   have qx:=Pl.Ex.size bI
   refine ⟨_,rfl,trivial,?_⟩
   refine Pl.af ?_
   cases b
   · repeat refine Pl.ay ?_
     refine Pl.gm rfl ?_
     repeat refine Pl.ay ?_
     refine Pl.iK ?_
     repeat refine Pl.ay ?_
     refine Pl.aB (by kernel_rfl) ?_
     refine Pl.dJ (part:=[.bool (decide (q<0)),.slice A5 (limbs (Int.natAbs q)).length c6]) (Pl.Cb.ex Gp (Pl.Ex.trans bf bI)) rfl Tryz.underlying24 rfl (by kernel_rfl) trivial rfl rfl rfl rfl rfl ?_
     refine Pl.bg (new:=[.bool (decide (q<0)),.slice A5 (limbs (Int.natAbs q)).length c6]) (Pl.Cb.ex aF (Pl.Ex.trans aP (Pl.Ex.trans dh (Pl.Ex.trans bf bI)))) (by kernel_rfl) rfl (by simp [Value.oneCell']) rfl rfl rfl rfl rfl rfl (fun Y hY=>trivial) ?_
     intro yu fD fB
     have bY:=Pl.Ex.xs (Pl.Ex.trans aR (Pl.Ex.trans aP (Pl.Ex.trans dh (Pl.Ex.trans bf bI)))) fD (by omega)
     have qQ:=Pl.Xs.size fD
     have abd:=Pl.Cb.xs (Pl.Cb.ex Gp (Pl.Ex.trans bf bI)) fD (by simp;omega)
     have abe:=Pl.Cb.xs (Pl.Cb.ex JN (Pl.Ex.trans bf bI)) fD (by simp;omega)
     have aeB:=Pl.Cb.xs (Pl.Cb.ex kNs bI) fD (by simp;omega)
     refine Pl.af ?_
     have k14:=Un.xs (Un.below u7 (Pl.Ex.trans dh (Pl.Ex.trans bf bI))) fD (Pl.Cb.ex aF (Pl.Ex.trans aP (Pl.Ex.trans dh (Pl.Ex.trans bf bI)))) (by simp)
     repeat refine Pl.ay ?_
     exact Pl.cO rfl rfl fB Tryz.underlying24 rfl (by kernel_rfl) (⟨_,rfl,by rw [X5 hj hd (k:=ko) (by rw [hr];exact hko),hq,hr,hb];exact (Zn.of k14),(Pl.Ex.trans hE1 (Pl.Ex.trans hE2 (Pl.Ex.trans aO bY)))⟩)
   · repeat refine Pl.ay ?_
     refine Pl.iO rfl ?_
     repeat refine Pl.ay ?_
     refine Pl.fJ (S:=fun X=>Pl.Ex w3 X∧Pl.Cb X mo 24 [.bool (decide (q<0)),.slice A5 (limbs (Int.natAbs q)).length c6]) [(true,0,0),(false,1,1),(false,2,3),(false,3,7)] fo Pl.az (by kernel_rfl) ⟨Pl.Ex.trans (Pl.Ex.trans aR (Pl.Ex.trans aP (Pl.Ex.trans dh (Pl.Ex.trans bf bI)))) (Pl.Ex.drew _),Pl.Cb.ex (Pl.Cb.ex Gp (Pl.Ex.trans bf bI)) (Pl.Ex.drew _)⟩ ?_
     have bY:=Pl.Ex.drew uV
     generalize uV.drew=yu at *
     have qQ:=Pl.Ex.size bY
     intro jl
     refine Pl.bT (part:=[.bool (decide (q<0)),.slice A5 (limbs (Int.natAbs q)).length c6]) (fun X hX=>hX.2) rfl Tryz.underlying24 rfl (by kernel_rfl) jl rfl rfl rfl rfl rfl ?_
     refine Pl.ah rfl rfl rfl rfl rfl (fun u X=>Pl.enters Tryz.func117 (by kernel_rfl) rfl u X) ?_
     refine Calls.mono (zof _ 1 (by decide) (by decide)) ?_
     rintro e yM ⟨v14,rfl,zq,bM⟩
     obtain ⟨xw,c16,rfl,xA⟩:=zq
     have rE:=Pl.Ex.size bM
     have lV:=And.intro (Pl.Ex.trans jl.1 bM) (Pl.Cb.ex jl.2 bM)
     refine ⟨_,rfl,lV,?_⟩
     refine Pl.ah rfl rfl rfl rfl rfl (fun u X=>Pl.enters Tryz.func74 (by kernel_rfl) rfl u X) ?_
     refine Calls.mono (aec _ _ _ q 1 (Zn.of (Un.below u7 (Pl.Ex.trans dh (Pl.Ex.trans bf (Pl.Ex.trans bI (Pl.Ex.trans bY bM)))))) (Zn.of xA) (lq.le (by omega)) (Sz.lit (by decide) (by decide)) _ rfl) ?_
     rintro e FV ⟨vt,rfl,hvt,ed⟩
     obtain ⟨At,ct,rfl,ut⟩:=hvt
     have zK:=Pl.Ex.size ed
     have nU:=And.intro (Pl.Ex.trans lV.1 ed) (Pl.Cb.ex lV.2 ed)
     refine ⟨_,rfl,nU,?_⟩
     refine Pl.bg (new:=[.bool (decide ((q+1)<0)),.slice At (limbs (Int.natAbs (q+1))).length ct]) (Pl.Cb.ex aF (Pl.Ex.trans aP (Pl.Ex.trans dh (Pl.Ex.trans bf (Pl.Ex.trans bI (Pl.Ex.trans bY (Pl.Ex.trans bM ed))))))) (by kernel_rfl) rfl (by simp [Value.oneCell']) rfl rfl rfl rfl rfl rfl (fun Y hY=>⟨Pl.Ex.xs nU.1 hY (by omega),Pl.Cb.xs nU.2 hY (by simp;omega)⟩) ?_
     intro IA pM fB
     have dK:=Pl.Ex.xs (Pl.Ex.trans aR (Pl.Ex.trans aP (Pl.Ex.trans dh (Pl.Ex.trans bf (Pl.Ex.trans bI (Pl.Ex.trans bY (Pl.Ex.trans bM ed))))))) pM (by omega)
     have Cz:=Pl.Xs.size pM
     have uM:=And.intro (Pl.Ex.xs nU.1 pM (by omega)) (Pl.Cb.xs nU.2 pM (by simp;omega))
     have abd:=Pl.Cb.xs (Pl.Cb.ex Gp (Pl.Ex.trans bf (Pl.Ex.trans bI (Pl.Ex.trans bY (Pl.Ex.trans bM ed))))) pM (by simp;omega)
     have abe:=Pl.Cb.xs (Pl.Cb.ex JN (Pl.Ex.trans bf (Pl.Ex.trans bI (Pl.Ex.trans bY (Pl.Ex.trans bM ed))))) pM (by simp;omega)
     have aeB:=Pl.Cb.xs (Pl.Cb.ex kNs (Pl.Ex.trans bI (Pl.Ex.trans bY (Pl.Ex.trans bM ed)))) pM (by simp;omega)
     refine Pl.af ?_
     have k18:=Un.xs ut pM (Pl.Cb.ex aF (Pl.Ex.trans aP (Pl.Ex.trans dh (Pl.Ex.trans bf (Pl.Ex.trans bI (Pl.Ex.trans bY (Pl.Ex.trans bM ed))))))) (by simp)
     repeat refine Pl.ay ?_
     exact Pl.cO rfl rfl fB Tryz.underlying24 rfl (by kernel_rfl) (⟨_,rfl,by rw [X5 hj hd (k:=ko) (by rw [hr];exact hko),hq,hr,hb];exact (Zn.of k18),(Pl.Ex.trans hE1 (Pl.Ex.trans hE2 (Pl.Ex.trans aO dK)))⟩)
 · repeat refine Pl.ay ?_
   refine Pl.nG (S:=fun X=>Pl.Ex w9 X) fo (Pl.Ex.trans (Pl.Ex.refl _) (Pl.Ex.drew _)) ?_
   have bf:=Pl.Ex.drew w9
   generalize w9.drew=qD at *
   have mD:=Pl.Ex.size bf
   intro gK
   refine Pl.aZ [(true,0,0),(true,1,1),(true,4,3),(true,6,19)] 83 7 Pl.az (by kernel_rfl) (by kernel_rfl) (by kernel_rfl) ?_
   refine Pl.bT (part:=[.bool (decide (q<0)),.slice A5 (limbs (Int.natAbs q)).length c6]) (fun X hX=>Pl.Cb.ex Gp hX) rfl Tryz.underlying24 rfl (by kernel_rfl) gK rfl rfl rfl rfl rfl ?_
   refine Pl.bT (part:=[.bool (decide (r<0)),.slice A8 (limbs (Int.natAbs r)).length c9]) (fun X hX=>Pl.Cb.ex JN hX) rfl Tryz.underlying24 rfl (by kernel_rfl) gK rfl rfl rfl rfl rfl ?_
   refine Pl.bT (part:=[.bool (decide (r<0)),.slice A8 (limbs (Int.natAbs r)).length c9]) (fun X hX=>Pl.Cb.ex JN hX) rfl Tryz.underlying24 rfl (by kernel_rfl) gK rfl rfl rfl rfl rfl ?_
   refine Pl.bT (part:=[.bool (decide (d<0)),.slice Ad (limbs (Int.natAbs d)).length cd]) (fun X hX=>Pl.Cb.ex (Pl.Cb.ex aL (Pl.Ex.trans aR (Pl.Ex.trans aP dh))) hX) rfl Tryz.underlying24 rfl (by kernel_rfl) gK rfl rfl rfl rfl rfl ?_
   refine Pl.af ?_
   refine Pl.cB [2,9] 6 (by kernel_rfl) (by kernel_rfl) (by kernel_rfl) (Pl.aj ?_ (Pl.aj ?_ Pl.aJ))
   · refine Pl.ah rfl rfl rfl rfl rfl (fun u X=>Pl.enters Tryz.func60 (by kernel_rfl) rfl u X) ?_
     refine Calls.mono (KW _ _ r (Zn.of (Un.below rW (Pl.Ex.trans dh bf))) _ rfl) ?_
     rintro e uV ⟨rfl,bI⟩
     obtain ⟨ks,qks⟩:∃ q,Int.sign r=q:=⟨_,rfl⟩
     rw [qks]
     have gks:=yx qks
     have qx:=Pl.Ex.size bI
     have iT:=Pl.Ex.trans gK bI
     refine ⟨_,rfl,iT,?_⟩
     refine Pl.af ?_
     refine Pl.aZ [(true,3,87)] 95 5 Pl.az (by kernel_rfl) (by kernel_rfl) (by kernel_rfl) ?_
     refine Pl.dO (v:=.bool (decide (0<r))) (fun X=>Pl.KH (decide_eq_decide.2 (by omega)) X) iT rfl rfl rfl rfl rfl rfl ?_
     refine Pl.af ?_
     refine Pl.cB [5,9] 4 (by kernel_rfl) (by kernel_rfl) (by kernel_rfl) (Pl.aj ?_ (Pl.aj ?_ Pl.aJ))
     · refine Pl.ah rfl rfl rfl rfl rfl (fun u X=>Pl.enters Tryz.func65 (by kernel_rfl) rfl u X) ?_
       refine Calls.mono (lH _ _ r 1 (Zn.of (Un.below rW (Pl.Ex.trans dh (Pl.Ex.trans bf bI)))) (Nat.le_trans lr (by omega)) (by decide) (by decide) (shl r 1) rfl) ?_
       rintro e yu ⟨vs,rfl,hvs,bY⟩
       obtain ⟨As,cs,rfl,us⟩:=hvs
       have qQ:=Pl.Ex.size bY
       have jl:=Pl.Ex.trans iT bY
       refine ⟨_,rfl,jl,?_⟩
       refine Pl.af ?_
       refine Pl.cB [7,9] 3 (by kernel_rfl) (by kernel_rfl) (by kernel_rfl) (Pl.aj ?_ (Pl.aj ?_ Pl.aJ))
       · refine Pl.ah rfl rfl rfl rfl rfl (fun u X=>Pl.enters Tryz.func70 (by kernel_rfl) rfl u X) ?_
         refine Calls.mono (Xk _ _ _ (shl r 1) d (Zn.of us) (Zn.of (Un.below ud (Pl.Ex.trans hE1 (Pl.Ex.trans hE2 (Pl.Ex.trans aO (Pl.Ex.trans aR (Pl.Ex.trans aP (Pl.Ex.trans dh (Pl.Ex.trans bf (Pl.Ex.trans bI bY)))))))))) _ rfl) ?_
         rintro e yM ⟨rfl,bM⟩
         obtain ⟨k1,UH⟩:∃ q,jy (shl r 1) d=q:=⟨_,rfl⟩
         rw [UH]
         have rE:=Pl.Ex.size bM
         have lV:=Pl.Ex.trans jl bM
         refine ⟨_,rfl,lV,?_⟩
         refine Pl.af ?_
         refine Pl.aZ [(true,8,255),(false,9,511),(false,10,1023)] 2047 0 Pl.az (by kernel_rfl) (by kernel_rfl) (by kernel_rfl) ?_
         refine Pl.bC (.agg #[.bool (decide (q<0)),.slice A5 (limbs (Int.natAbs q)).length c6,.bool (decide (0<r)),.int .i64 k1]) lV rfl rfl rfl rfl (fun X=>by kernel_rfl) ?_
         refine Pl.aU (z:=.agg #[.bool false,.slice none 0 0,.bool false,.int .i64 0]) (by kernel_rfl) rfl rfl rfl rfl (fun Y hY=>Pl.Ex.trans lV hY) ?_
         intro G9 FV ed He jV
         have Mh:=Pl.Cb.lt jV
         have zK:=Pl.Ex.size ed
         replace jV:Pl.Cb FV G9 116 [.bool false,.slice none 0 0,.bool false,.int .i64 0]:=jV
         have nU:=Pl.Ex.trans lV ed
         refine Pl.bg (new:=[.bool (decide (q<0)),.slice A5 (limbs (Int.natAbs q)).length c6,.bool (decide (0<r)),.int .i64 k1]) jV (by kernel_rfl) rfl (by simp [Value.oneCell']) rfl rfl rfl rfl rfl rfl (fun Y hY=>Pl.Ex.xs nU hY (by omega)) ?_
         intro IA pM sI
         have dK:=Pl.Ex.xs ed pM (by omega)
         have Cz:=Pl.Xs.size pM
         have uM:=Pl.Ex.xs nU pM (by omega)
         refine Pl.af ?_
         refine Pl.tK (by kernel_rfl) ?_
         refine Pl.jv [(3,.pointer (some ⟨N1,0,none⟩)),(4,.pointer (some ⟨N2,0,none⟩)),(5,.pointer (some ⟨N3,0,none⟩)),(6,.pointer (some ⟨N4,0,none⟩)),(7,.pointer (some ⟨mo,0,none⟩)),(8,.pointer (some ⟨Cy,0,none⟩)),(10,.pointer (some ⟨G9,0,none⟩))] (Pl.aa rfl (Pl.aa rfl (Pl.aa rfl (Pl.aa rfl (Pl.aa rfl (Pl.aa rfl (Pl.aa rfl Pl.aA))))))) ?_
         exact NI _ _ ⟨G9,k1,(Pl.Ex.trans bf (Pl.Ex.trans bI (Pl.Ex.trans bY (Pl.Ex.trans bM dK)))),sI,(by omega),UH,rfl⟩
       · refine Pl.aU (z:=.agg #[.bool false,.slice none 0 0,.bool false,.int .i64 0]) (by kernel_rfl) rfl rfl rfl rfl (fun Y hY=>Pl.Ex.trans jl hY) ?_
         intro G9 yM bM He jV
         have Mh:=Pl.Cb.lt jV
         have rE:=Pl.Ex.size bM
         replace jV:Pl.Cb yM G9 116 [.bool false,.slice none 0 0,.bool false,.int .i64 0]:=jV
         have lV:=Pl.Ex.trans jl bM
         refine Pl.af ?_
         refine Pl.aZ [(false,7,639),(true,8,767),(false,10,1023)] 2047 0 Pl.az (by kernel_rfl) (by kernel_rfl) (by kernel_rfl) ?_
         refine Pl.ah rfl rfl rfl rfl rfl (fun u X=>Pl.enters Tryz.func70 (by kernel_rfl) rfl u X) ?_
         refine Calls.mono (Xk _ _ _ (shl r 1) d (Zn.of (Un.below us bM)) (Zn.of (Un.below ud (Pl.Ex.trans hE1 (Pl.Ex.trans hE2 (Pl.Ex.trans aO (Pl.Ex.trans aR (Pl.Ex.trans aP (Pl.Ex.trans dh (Pl.Ex.trans bf (Pl.Ex.trans bI (Pl.Ex.trans bY bM))))))))))) _ rfl) ?_
         rintro e FV ⟨rfl,ed⟩
         obtain ⟨k1,UH⟩:∃ q,jy (shl r 1) d=q:=⟨_,rfl⟩
         rw [UH]
         have zK:=Pl.Ex.size ed
         have nU:=Pl.Ex.trans lV ed
         refine ⟨_,rfl,nU,?_⟩
         refine Pl.bC (.agg #[.bool (decide (q<0)),.slice A5 (limbs (Int.natAbs q)).length c6,.bool (decide (0<r)),.int .i64 k1]) nU rfl rfl rfl rfl (fun X=>by kernel_rfl) ?_
         refine Pl.bg (new:=[.bool (decide (q<0)),.slice A5 (limbs (Int.natAbs q)).length c6,.bool (decide (0<r)),.int .i64 k1]) (Pl.Cb.ex jV ed) (by kernel_rfl) rfl (by simp [Value.oneCell']) rfl rfl rfl rfl rfl rfl (fun Y hY=>Pl.Ex.xs nU hY (by omega)) ?_
         intro IA pM sI
         have dK:=Pl.Ex.xs (Pl.Ex.trans bM ed) pM (by omega)
         have Cz:=Pl.Xs.size pM
         have uM:=Pl.Ex.xs nU pM (by omega)
         refine Pl.af ?_
         refine Pl.tK (by kernel_rfl) ?_
         refine Pl.jv [(3,.pointer (some ⟨N1,0,none⟩)),(4,.pointer (some ⟨N2,0,none⟩)),(5,.pointer (some ⟨N3,0,none⟩)),(6,.pointer (some ⟨N4,0,none⟩)),(7,.pointer (some ⟨mo,0,none⟩)),(8,.pointer (some ⟨Cy,0,none⟩)),(10,.pointer (some ⟨G9,0,none⟩))] (Pl.aa rfl (Pl.aa rfl (Pl.aa rfl (Pl.aa rfl (Pl.aa rfl (Pl.aa rfl (Pl.aa rfl Pl.aA))))))) ?_
         exact NI _ _ ⟨G9,k1,(Pl.Ex.trans bf (Pl.Ex.trans bI (Pl.Ex.trans bY dK))),sI,(by omega),UH,rfl⟩
     · refine Pl.aU (z:=.agg #[.bool false,.slice none 0 0,.bool false,.int .i64 0]) (by kernel_rfl) rfl rfl rfl rfl (fun Y hY=>Pl.Ex.trans iT hY) ?_
       intro G9 yu bY He jV
       have Mh:=Pl.Cb.lt jV
       have qQ:=Pl.Ex.size bY
       replace jV:Pl.Cb yu G9 116 [.bool false,.slice none 0 0,.bool false,.int .i64 0]:=jV
       have jl:=Pl.Ex.trans iT bY
       refine Pl.af ?_
       refine Pl.aZ [(false,5,607),(false,7,639),(true,8,767),(false,10,1023)] 2047 0 Pl.az (by kernel_rfl) (by kernel_rfl) (by kernel_rfl) ?_
       refine Pl.ah rfl rfl rfl rfl rfl (fun u X=>Pl.enters Tryz.func65 (by kernel_rfl) rfl u X) ?_
       refine Calls.mono (lH _ _ r 1 (Zn.of (Un.below rW (Pl.Ex.trans dh (Pl.Ex.trans bf (Pl.Ex.trans bI bY))))) (Nat.le_trans lr (by omega)) (by decide) (by decide) (shl r 1) rfl) ?_
       rintro e yM ⟨vs,rfl,hvs,bM⟩
       obtain ⟨As,cs,rfl,us⟩:=hvs
       have rE:=Pl.Ex.size bM
       have lV:=Pl.Ex.trans jl bM
       refine ⟨_,rfl,lV,?_⟩
       refine Pl.ah rfl rfl rfl rfl rfl (fun u X=>Pl.enters Tryz.func70 (by kernel_rfl) rfl u X) ?_
       refine Calls.mono (Xk _ _ _ (shl r 1) d (Zn.of us) (Zn.of (Un.below ud (Pl.Ex.trans hE1 (Pl.Ex.trans hE2 (Pl.Ex.trans aO (Pl.Ex.trans aR (Pl.Ex.trans aP (Pl.Ex.trans dh (Pl.Ex.trans bf (Pl.Ex.trans bI (Pl.Ex.trans bY bM))))))))))) _ rfl) ?_
       rintro e FV ⟨rfl,ed⟩
       obtain ⟨k1,UH⟩:∃ q,jy (shl r 1) d=q:=⟨_,rfl⟩
       rw [UH]
       have zK:=Pl.Ex.size ed
       have nU:=Pl.Ex.trans lV ed
       refine ⟨_,rfl,nU,?_⟩
       refine Pl.bC (.agg #[.bool (decide (q<0)),.slice A5 (limbs (Int.natAbs q)).length c6,.bool (decide (0<r)),.int .i64 k1]) nU rfl rfl rfl rfl (fun X=>by kernel_rfl) ?_
       refine Pl.bg (new:=[.bool (decide (q<0)),.slice A5 (limbs (Int.natAbs q)).length c6,.bool (decide (0<r)),.int .i64 k1]) (Pl.Cb.ex jV (Pl.Ex.trans bM ed)) (by kernel_rfl) rfl (by simp [Value.oneCell']) rfl rfl rfl rfl rfl rfl (fun Y hY=>Pl.Ex.xs nU hY (by omega)) ?_
       intro IA pM sI
       have dK:=Pl.Ex.xs (Pl.Ex.trans bY (Pl.Ex.trans bM ed)) pM (by omega)
       have Cz:=Pl.Xs.size pM
       have uM:=Pl.Ex.xs nU pM (by omega)
       refine Pl.af ?_
       refine Pl.tK (by kernel_rfl) ?_
       refine Pl.jv [(3,.pointer (some ⟨N1,0,none⟩)),(4,.pointer (some ⟨N2,0,none⟩)),(5,.pointer (some ⟨N3,0,none⟩)),(6,.pointer (some ⟨N4,0,none⟩)),(7,.pointer (some ⟨mo,0,none⟩)),(8,.pointer (some ⟨Cy,0,none⟩)),(10,.pointer (some ⟨G9,0,none⟩))] (Pl.aa rfl (Pl.aa rfl (Pl.aa rfl (Pl.aa rfl (Pl.aa rfl (Pl.aa rfl (Pl.aa rfl Pl.aA))))))) ?_
       exact NI _ _ ⟨G9,k1,(Pl.Ex.trans bf (Pl.Ex.trans bI dK)),sI,(by omega),UH,rfl⟩
   · refine Pl.aU (z:=.agg #[.bool false,.slice none 0 0,.bool false,.int .i64 0]) (by kernel_rfl) rfl rfl rfl rfl (fun Y hY=>Pl.Ex.trans gK hY) ?_
     intro G9 uV bI He jV
     have Mh:=Pl.Cb.lt jV
     have qx:=Pl.Ex.size bI
     replace jV:Pl.Cb uV G9 116 [.bool false,.slice none 0 0,.bool false,.int .i64 0]:=jV
     have iT:=Pl.Ex.trans gK bI
     refine Pl.af ?_
     refine Pl.aZ [(false,2,595),(true,3,599),(false,5,607),(false,7,639),(true,8,767),(false,10,1023)] 2047 0 Pl.az (by kernel_rfl) (by kernel_rfl) (by kernel_rfl) ?_
     refine Pl.ah rfl rfl rfl rfl rfl (fun u X=>Pl.enters Tryz.func60 (by kernel_rfl) rfl u X) ?_
     refine Calls.mono (KW _ _ r (Zn.of (Un.below rW (Pl.Ex.trans dh (Pl.Ex.trans bf bI)))) _ rfl) ?_
     rintro e yu ⟨rfl,bY⟩
     obtain ⟨ks,qks⟩:∃ q,Int.sign r=q:=⟨_,rfl⟩
     rw [qks]
     have gks:=yx qks
     have qQ:=Pl.Ex.size bY
     have jl:=Pl.Ex.trans iT bY
     refine ⟨_,rfl,jl,?_⟩
     refine Pl.dO (v:=.bool (decide (0<r))) (fun X=>Pl.KH (decide_eq_decide.2 (by omega)) X) jl rfl rfl rfl rfl rfl rfl ?_
     refine Pl.ah rfl rfl rfl rfl rfl (fun u X=>Pl.enters Tryz.func65 (by kernel_rfl) rfl u X) ?_
     refine Calls.mono (lH _ _ r 1 (Zn.of (Un.below rW (Pl.Ex.trans dh (Pl.Ex.trans bf (Pl.Ex.trans bI bY))))) (Nat.le_trans lr (by omega)) (by decide) (by decide) (shl r 1) rfl) ?_
     rintro e yM ⟨vs,rfl,hvs,bM⟩
     obtain ⟨As,cs,rfl,us⟩:=hvs
     have rE:=Pl.Ex.size bM
     have lV:=Pl.Ex.trans jl bM
     refine ⟨_,rfl,lV,?_⟩
     refine Pl.ah rfl rfl rfl rfl rfl (fun u X=>Pl.enters Tryz.func70 (by kernel_rfl) rfl u X) ?_
     refine Calls.mono (Xk _ _ _ (shl r 1) d (Zn.of us) (Zn.of (Un.below ud (Pl.Ex.trans hE1 (Pl.Ex.trans hE2 (Pl.Ex.trans aO (Pl.Ex.trans aR (Pl.Ex.trans aP (Pl.Ex.trans dh (Pl.Ex.trans bf (Pl.Ex.trans bI (Pl.Ex.trans bY bM))))))))))) _ rfl) ?_
     rintro e FV ⟨rfl,ed⟩
     obtain ⟨k1,UH⟩:∃ q,jy (shl r 1) d=q:=⟨_,rfl⟩
     rw [UH]
     have zK:=Pl.Ex.size ed
     have nU:=Pl.Ex.trans lV ed
     refine ⟨_,rfl,nU,?_⟩
     refine Pl.bC (.agg #[.bool (decide (q<0)),.slice A5 (limbs (Int.natAbs q)).length c6,.bool (decide (0<r)),.int .i64 k1]) nU rfl rfl rfl rfl (fun X=>by kernel_rfl) ?_
     refine Pl.bg (new:=[.bool (decide (q<0)),.slice A5 (limbs (Int.natAbs q)).length c6,.bool (decide (0<r)),.int .i64 k1]) (Pl.Cb.ex jV (Pl.Ex.trans bY (Pl.Ex.trans bM ed))) (by kernel_rfl) rfl (by simp [Value.oneCell']) rfl rfl rfl rfl rfl rfl (fun Y hY=>Pl.Ex.xs nU hY (by omega)) ?_
     intro IA pM sI
     have dK:=Pl.Ex.xs (Pl.Ex.trans bI (Pl.Ex.trans bY (Pl.Ex.trans bM ed))) pM (by omega)
     have Cz:=Pl.Xs.size pM
     have uM:=Pl.Ex.xs nU pM (by omega)
     refine Pl.af ?_
     refine Pl.tK (by kernel_rfl) ?_
     refine Pl.jv [(3,.pointer (some ⟨N1,0,none⟩)),(4,.pointer (some ⟨N2,0,none⟩)),(5,.pointer (some ⟨N3,0,none⟩)),(6,.pointer (some ⟨N4,0,none⟩)),(7,.pointer (some ⟨mo,0,none⟩)),(8,.pointer (some ⟨Cy,0,none⟩)),(10,.pointer (some ⟨G9,0,none⟩))] (Pl.aa rfl (Pl.aa rfl (Pl.aa rfl (Pl.aa rfl (Pl.aa rfl (Pl.aa rfl (Pl.aa rfl Pl.aA))))))) ?_
     exact NI _ _ ⟨G9,k1,(Pl.Ex.trans bf dK),sI,(by omega),UH,rfl⟩
end Go.Proofs.YtdpmbgomcjnohaaGreatDoor
