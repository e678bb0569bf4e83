/- Rounded by a direction. -/
import Derived.Test.YtdpmbgomcjnohaaGreatDoorBay

namespace Go.Proofs.YtdpmbgomcjnohaaGreatDoor
open Go.RowKit 
set_option linter.all false
set_option maxRecDepth 100000
set_option maxHeartbeats 8000000
theorem qW (w:World)  :
  Calls Tryz.prog 85 #[] w fun e w'=>∃ N1 N2,e = .returned (.agg (adX N1 N2).toArray)∧Pl.Cb w' N1 90 [.func (.func 118) #[] #[]]∧Pl.Cb w' N2 90 [.func (.func 119) #[] #[]]∧Pl.Ex w w':=by
 refine Pl.aN (n:=12) (vs:=[]) Tryz.func85 rfl (by kernel_rfl) (by simp) ?_
 repeat refine Pl.af ?_
 refine Pl.ah (by kernel_rfl) ?_
 refine Pl.bK (z:=.agg #[.nilFunc,.nilFunc,.nilFunc,.nilFunc,.nilFunc]) (by kernel_rfl) rfl rfl rfl rfl (fun Y hY=>trivial) ?_
 intro N1 w1 hE1 bT ak
 have dP:=Pl.Cb.lt ak
 have jC:=Pl.Ex.size hE1
 replace ak:Pl.Cb w1 N1 93 [.nilFunc,.nilFunc,.nilFunc,.nilFunc,.nilFunc]:=ak
 refine Pl.aj ?_
 repeat refine Pl.af ?_
 refine Pl.ah (by kernel_rfl) ?_
 refine Pl.bK (z:=.nilFunc) (by kernel_rfl) rfl rfl rfl rfl (fun Y hY=>trivial) ?_
 intro N2 w2 hE2 dU aA
 have iq:=Pl.Cb.lt aA
 have jM:=Pl.Ex.size hE2
 replace aA:Pl.Cb w2 N2 90 [.nilFunc]:=aA
 refine Pl.Cw (j:=0) (u:=.func (.func 118) #[] #[]) aA (by simp) (by kernel_rfl) rfl rfl rfl rfl rfl rfl rfl rfl (fun Y hY=>trivial) ?_
 intro w3 Gs bf
 have aJ:=Pl.Ex.xs hE2 Gs (by omega)
 replace bf:Pl.Cb w3 N2 90 [.func (.func 118) #[] #[]]:=bf
 have jX:=Pl.Xs.size Gs
 refine Pl.aj ?_
 repeat refine Pl.af ?_
 refine Pl.ah (by kernel_rfl) ?_
 refine Pl.bK (z:=.nilFunc) (by kernel_rfl) rfl rfl rfl rfl (fun Y hY=>trivial) ?_
 intro N3 w4 aP pY aY
 have yg:=Pl.Cb.lt aY
 have kY:=Pl.Ex.size aP
 replace aY:Pl.Cb w4 N3 90 [.nilFunc]:=aY
 refine Pl.Cw (j:=0) (u:=.func (.func 119) #[] #[]) aY (by simp) (by kernel_rfl) rfl rfl rfl rfl rfl rfl rfl rfl (fun Y hY=>trivial) ?_
 intro w5 iW fE
 have aW:=Pl.Ex.xs aP iW (by omega)
 replace fE:Pl.Cb w5 N3 90 [.func (.func 119) #[] #[]]:=fE
 have mI:=Pl.Xs.size iW
 refine Pl.aj ?_
 repeat refine Pl.af ?_
 refine Pl.ah (by kernel_rfl) ?_
 refine Pl.aL (.agg #[.func (.func 120) #[] #[]]) trivial rfl rfl rfl rfl (fun X=>by kernel_rfl) ?_
 refine Pl.aL (.agg #[.func (.func 121) #[] #[]]) trivial rfl rfl rfl rfl (fun X=>by kernel_rfl) ?_
 refine Pl.uu trivial rfl rfl rfl rfl rfl rfl ?_
 refine Pl.aL (.agg #[.func (.func 122) #[] #[.pointer (some ⟨N2,0,none⟩)]]) trivial rfl rfl rfl rfl (fun X=>by kernel_rfl) ?_
 refine Pl.uu trivial rfl rfl rfl rfl rfl rfl ?_
 refine Pl.aL (.agg #[.func (.func 123) #[] #[.pointer (some ⟨N2,0,none⟩)]]) trivial rfl rfl rfl rfl (fun X=>by kernel_rfl) ?_
 refine Pl.uu trivial rfl rfl rfl rfl rfl rfl ?_
 refine Pl.aL (.agg #[.func (.func 124) #[] #[.pointer (some ⟨N3,0,none⟩)]]) trivial rfl rfl rfl rfl (fun X=>by kernel_rfl) ?_
 refine Pl.aL (.agg #[.func (.func 120) #[] #[],.func (.func 121) #[] #[],.func (.func 122) #[] #[.pointer (some ⟨N2,0,none⟩)],.func (.func 123) #[] #[.pointer (some ⟨N2,0,none⟩)],.func (.func 124) #[] #[.pointer (some ⟨N3,0,none⟩)]]) trivial rfl rfl rfl rfl (fun X=>by kernel_rfl) ?_
 refine Pl.bz (new:=[.func (.func 120) #[] #[],.func (.func 121) #[] #[],.func (.func 122) #[] #[.pointer (some ⟨N2,0,none⟩)],.func (.func 123) #[] #[.pointer (some ⟨N2,0,none⟩)],.func (.func 124) #[] #[.pointer (some ⟨N3,0,none⟩)]]) (Pl.Cb.ex ak (Pl.Ex.trans aJ aW)) (by kernel_rfl) rfl (by simp [Value.oneCell']) rfl rfl rfl rfl rfl rfl (fun Y hY=>trivial) ?_
 intro w6 jY gQ
 have bO:=Pl.Ex.xs (Pl.Ex.trans hE1 (Pl.Ex.trans aJ aW)) jY (by omega)
 have rC:=Pl.Xs.size jY
 have XX:=Pl.Cb.xs (Pl.Cb.ex bf aW) jY (by simp;omega)
 have JW:=Pl.Cb.xs fE jY (by simp;omega)
 refine Pl.aj ?_
 repeat refine Pl.af ?_
 exact Pl.aV rfl rfl gQ Tryz.underlying93 rfl (by kernel_rfl) (⟨N2,N3,rfl,XX,JW,bO⟩)
theorem Ru {n d k:Int} {j:Nat} (hj:j<5) (hd:0<d) (hk:bZ (shl (n%d) 1) d=k):Dy.jT j ((n:Rat)/(d:Rat))=if XW j (n/d) (decide (0<n%d)) k then n/d+1 else n/d:=by
 have e1:shl (n%d) 1=2*(n%d):=by
  rw [show (1:Int)=((1:Nat):Int) from rfl,oL];omega
 rw [e1] at hk
 have hc:=yj hk
 have ha:=Dy.Re (n:=n) hd
 have hm:=Dy.NN (n:=n) hd
 rw [Dy.iU hd] at ha hm
 rw [← Dy.iU hd]
 refine Dy.XO hj _ _ ?_ ?_ ?_ ?_ ?_
 · rintro rfl;rfl
 · rintro rfl;rw [Dy.iU hd,← ha];simp [XW]
 · rintro rfl;rw [Dy.iU hd,← ha];simp [XW]
 · rintro rfl;rw [Dy.iU hd,← ha];simp [XW]
 · rintro rfl
   rw [Dy.iU hd,← hm.1,← hm.2]
   simp only [XW,Bool.or_eq_true,Bool.and_eq_true,decide_eq_true_eq]
   constructor
   · rintro (h | ⟨h,h2⟩)
     · exact .inl (by omega)
     · exact .inr ⟨by omega,h2⟩
   · rintro (h | ⟨h,h2⟩)
     · exact .inl (by omega)
     · exact .inr ⟨by omega,h2⟩
theorem gX (w:World) (j:Nat) (hj:j<5) (Na Nb:Nat) (ka:Pl.Cb w Na 90 [.func (.func 118) #[] #[]]) (kb:Pl.Cb w Nb 90 [.func (.func 119) #[] #[]]) (vn vd:Value) (n d:Int) (hn:Zn w vn n) (hd_:Zn w vd d) (L M:Nat) (ln:Sz n L) (ld:Sz d M) (hL:L≤1000) (hM:M≤1000) (hd:0<d) :
  Calls Tryz.prog 87 #[.agg #[U2 Na Nb j],vn,vd] w fun e w'=>∃ u,e = .returned u∧Zn w' u (Dy.jT j ((n:Rat)/(d:Rat)))∧Pl.Ex w w':=by
 obtain ⟨An,cn,rfl,un⟩:=hn
 obtain ⟨Ad,cd,rfl,ud⟩:=hd_
 have hd0:d≠0:=by omega
 obtain ⟨q,hq⟩:∃ q,n/d=q:=⟨_,rfl⟩
 obtain ⟨r,hr⟩:∃ r,n%d=r:=⟨_,rfl⟩
 have lq:Sz q L:=by rw [← hq];exact Sz.div ln
 have lr:Sz r M:=by rw [← hr];exact Sz.mod ld hd0
 refine Pl.aN (n:=35) (vs:=[.agg #[(U2 Na Nb j)],.agg #[.bool (decide (n<0)),.slice An (limbs (Int.natAbs n)).length cn],.agg #[.bool (decide (d<0)),.slice Ad (limbs (Int.natAbs d)).length cd]]) Tryz.func87 rfl (by kernel_rfl) (by simp) ?_
 repeat refine Pl.af ?_
 refine Pl.ah (by kernel_rfl) ?_
 refine Pl.bF (cs:=[(U2 Na Nb j)]) rfl rfl rfl rfl rfl rfl (fun Y hY=>trivial) ?_
 intro N1 w1 hE1 bT ak
 have dP:=Pl.Cb.lt ak
 have jC:=Pl.Ex.size hE1
 refine Pl.bF (cs:=[.bool (decide (n<0)),.slice An (limbs (Int.natAbs n)).length cn]) rfl rfl rfl rfl rfl rfl (fun Y hY=>trivial) ?_
 intro N2 w2 hE2 dU aA
 have iq:=Pl.Cb.lt aA
 have jM:=Pl.Ex.size hE2
 refine Pl.bF (cs:=[.bool (decide (d<0)),.slice Ad (limbs (Int.natAbs d)).length cd]) rfl rfl rfl rfl rfl rfl (fun Y hY=>trivial) ?_
 intro N3 w3 aJ pY aY
 have yg:=Pl.Cb.lt aY
 have jX:=Pl.Ex.size aJ
 refine Pl.bK (z:=.agg #[.bool false,.slice none 0 0]) (by kernel_rfl) rfl rfl rfl rfl (fun Y hY=>trivial) ?_
 intro N4 w4 aP wQ bV
 have ES:=Pl.Cb.lt bV
 have kY:=Pl.Ex.size aP
 replace bV:Pl.Cb w4 N4 24 [.bool false,.slice none 0 0]:=bV
 refine Pl.aj ?_
 repeat refine Pl.af ?_
 refine Pl.ah (by kernel_rfl) ?_
 refine Pl.bg (part:=[.bool (decide (n<0)),.slice An (limbs (Int.natAbs n)).length cn]) (Pl.Cb.ex aA (Pl.Ex.trans aJ aP)) rfl Tryz.underlying24 rfl (by kernel_rfl) trivial rfl rfl rfl rfl rfl ?_
 refine Pl.bg (part:=[.bool (decide (d<0)),.slice Ad (limbs (Int.natAbs d)).length cd]) (Pl.Cb.ex aY aP) rfl Tryz.underlying24 rfl (by kernel_rfl) trivial rfl rfl rfl rfl rfl ?_
 refine Pl.ay rfl rfl rfl rfl rfl (fun u X=>Pl.enters Tryz.func126 (by kernel_rfl) rfl u X) ?_
 refine Calls.mono (XC _ _ _ n d (Zn.of (Un.below un (Pl.Ex.trans hE1 (Pl.Ex.trans hE2 (Pl.Ex.trans aJ aP))))) (Zn.of (Un.below ud (Pl.Ex.trans hE1 (Pl.Ex.trans hE2 (Pl.Ex.trans aJ aP))))) (ln.le (by omega)) (ld.le (by omega)) hd0 _ _ rfl rfl) ?_
 rintro e w5 ⟨⟨vq,vr,rfl,rz,DU⟩,aW⟩
 rw [hq] at rz
 rw [hr] at DU
 obtain ⟨A5,c6,rfl,u7⟩:=rz
 obtain ⟨A8,c9,rfl,zK⟩:=DU
 have mI:=Pl.Ex.size aW
 refine ⟨_,rfl,trivial,?_⟩
 refine Pl.aG trivial rfl ?_
 refine Pl.bK (z:=.agg #[.bool false,.slice none 0 0]) (by kernel_rfl) rfl rfl rfl rfl (fun Y hY=>trivial) ?_
 intro Rv w6 bO XY mg
 have aam:=Pl.Cb.lt mg
 have rC:=Pl.Ex.size bO
 replace mg:Pl.Cb w6 Rv 24 [.bool false,.slice none 0 0]:=mg
 refine Pl.bK (z:=.agg #[.bool false,.slice none 0 0]) (by kernel_rfl) rfl rfl rfl rfl (fun Y hY=>trivial) ?_
 intro YG w7 cB adY Ak
 have afZ:=Pl.Cb.lt Ak
 have wm:=Pl.Ex.size cB
 replace Ak:Pl.Cb w7 YG 24 [.bool false,.slice none 0 0]:=Ak
 refine Pl.bz (new:=[.bool (decide (q<0)),.slice A5 (limbs (Int.natAbs q)).length c6]) (Pl.Cb.ex mg cB) (by kernel_rfl) rfl (by simp [Value.oneCell']) rfl rfl rfl rfl rfl rfl (fun Y hY=>trivial) ?_
 intro w8 iL FI
 have iX:=Pl.Ex.xs (Pl.Ex.trans bO cB) iL (by omega)
 have EW:=Pl.Xs.size iL
 have U4:=Pl.Cb.xs Ak iL (by simp;omega)
 refine Pl.bz (new:=[.bool (decide (r<0)),.slice A8 (limbs (Int.natAbs r)).length c9]) U4 (by kernel_rfl) rfl (by simp [Value.oneCell']) rfl rfl rfl rfl rfl rfl (fun Y hY=>trivial) ?_
 intro w9 Ta Al
 have rE:=Pl.Ex.xs iX Ta (by omega)
 have sz9:=Pl.Xs.size Ta
 have xG:=Pl.Cb.xs FI Ta (by simp;omega)
 refine Pl.aG trivial rfl ?_
 refine Pl.aj ?_
 repeat refine Pl.af ?_
 refine Pl.Fa (fun l' w'=>∃ (Ns:Nat) (ko:Int),Pl.Ex w9 w'∧(Pl.Cb w' Ns 116 [.bool (decide (q<0)),.slice A5 (limbs (Int.natAbs q)).length c6,.bool (decide (0<r)),.int .i64 ko])∧(w9.heap.size≤Ns)∧(bZ (shl r 1) d=ko)∧l'=[(3,.pointer (some ⟨N1,0,none⟩)),(4,.pointer (some ⟨N2,0,none⟩)),(5,.pointer (some ⟨N3,0,none⟩)),(6,.pointer (some ⟨N4,0,none⟩)),(7,.pointer (some ⟨Rv,0,none⟩)),(8,.pointer (some ⟨YG,0,none⟩)),(10,.pointer (some ⟨Ns,0,none⟩))]) ?_ fun FJ=>?_
 · rintro _ Ic ⟨Ns,ko,fu,kNs,hNs,hko,rfl⟩
   have TW:=Pl.Ex.size fu
   repeat refine Pl.af ?_
   refine Pl.ah (by kernel_rfl) ?_
   refine Pl.aL (.pointer (some ⟨N1,0,none⟩)) trivial rfl rfl rfl rfl (fun X=>by kernel_rfl) ?_
   refine Pl.bD (v:=(U2 Na Nb j)) Tryz.underlying90 rfl (Pl.Cb.at (j:=0) (Pl.Cb.ex ak (Pl.Ex.trans hE2 (Pl.Ex.trans aJ (Pl.Ex.trans aP (Pl.Ex.trans aW (Pl.Ex.trans rE fu)))))) rfl) trivial rfl rfl rfl rfl rfl ?_
   refine Pl.bg (part:=[.bool (decide (q<0)),.slice A5 (limbs (Int.natAbs q)).length c6,.bool (decide (0<r)),.int .i64 ko]) kNs rfl Tryz.underlying116 rfl (by kernel_rfl) trivial rfl rfl rfl rfl rfl ?_
   refine Pl.oC rfl rfl rfl rfl rfl rfl (KQ j hj) ?_
   refine Calls.mono (IL _ j hj Na Nb (Pl.Cb.ex ka (Pl.Ex.trans hE1 (Pl.Ex.trans hE2 (Pl.Ex.trans aJ (Pl.Ex.trans aP (Pl.Ex.trans aW (Pl.Ex.trans rE fu))))))) (Pl.Cb.ex kb (Pl.Ex.trans hE1 (Pl.Ex.trans hE2 (Pl.Ex.trans aJ (Pl.Ex.trans aP (Pl.Ex.trans aW (Pl.Ex.trans rE fu))))))) (decide (0<r)) A5 c6 q (Un.below u7 (Pl.Ex.trans rE fu)) ko) ?_
   rintro e Oz ⟨rfl,dX⟩
   obtain ⟨b,hb⟩:∃ b,XW j q (decide (0<r)) ko=b:=⟨_,rfl⟩
   rw [hb]
   have NC:=Pl.Ex.size dX
   refine ⟨_,rfl,trivial,?_⟩
   refine Pl.aj ?_
   cases b
   · repeat refine Pl.af ?_
     refine Pl.dH rfl ?_
     repeat refine Pl.af ?_
     refine Pl.fG ?_
     repeat refine Pl.af ?_
     refine Pl.ah (by kernel_rfl) ?_
     refine Pl.bg (part:=[.bool (decide (q<0)),.slice A5 (limbs (Int.natAbs q)).length c6]) (Pl.Cb.ex xG (Pl.Ex.trans fu dX)) rfl Tryz.underlying24 rfl (by kernel_rfl) trivial rfl rfl rfl rfl rfl ?_
     refine Pl.bz (new:=[.bool (decide (q<0)),.slice A5 (limbs (Int.natAbs q)).length c6]) (Pl.Cb.ex bV (Pl.Ex.trans aW (Pl.Ex.trans rE (Pl.Ex.trans fu dX)))) (by kernel_rfl) rfl (by simp [Value.oneCell']) rfl rfl rfl rfl rfl rfl (fun Y hY=>trivial) ?_
     intro OA oJ fO
     have bG:=Pl.Ex.xs (Pl.Ex.trans aP (Pl.Ex.trans aW (Pl.Ex.trans rE (Pl.Ex.trans fu dX)))) oJ (by omega)
     have DC:=Pl.Xs.size oJ
     have U5:=Pl.Cb.xs (Pl.Cb.ex xG (Pl.Ex.trans fu dX)) oJ (by simp;omega)
     have U6:=Pl.Cb.xs (Pl.Cb.ex Al (Pl.Ex.trans fu dX)) oJ (by simp;omega)
     have XZ:=Pl.Cb.xs (Pl.Cb.ex kNs dX) oJ (by simp;omega)
     refine Pl.aj ?_
     have k14:=Un.xs (Un.below u7 (Pl.Ex.trans rE (Pl.Ex.trans fu dX))) oJ (Pl.Cb.ex bV (Pl.Ex.trans aW (Pl.Ex.trans rE (Pl.Ex.trans fu dX)))) (by simp)
     repeat refine Pl.af ?_
     exact Pl.aV rfl rfl fO Tryz.underlying24 rfl (by kernel_rfl) (⟨_,rfl,by rw [Ru hj hd (k:=ko) (by rw [hr];exact hko),hq,hr,hb];exact (Zn.of k14),(Pl.Ex.trans hE1 (Pl.Ex.trans hE2 (Pl.Ex.trans aJ bG)))⟩)
   · repeat refine Pl.af ?_
     refine Pl.fP rfl ?_
     repeat refine Pl.af ?_
     refine Pl.fU (S:=fun X=>Pl.Ex w3 X∧Pl.Cb X Rv 24 [.bool (decide (q<0)),.slice A5 (limbs (Int.natAbs q)).length c6]) [(true,0,0),(false,1,1),(false,2,3),(false,3,7)] fo Pl.aR (by kernel_rfl) ⟨Pl.Ex.trans (Pl.Ex.trans aP (Pl.Ex.trans aW (Pl.Ex.trans rE (Pl.Ex.trans fu dX)))) (Pl.Ex.drew _),Pl.Cb.ex (Pl.Cb.ex xG (Pl.Ex.trans fu dX)) (Pl.Ex.drew _)⟩ ?_
     have bG:=Pl.Ex.drew Oz
     generalize Oz.drew=OA at *
     have DC:=Pl.Ex.size bG
     intro pQ
     refine Pl.bn (part:=[.bool (decide (q<0)),.slice A5 (limbs (Int.natAbs q)).length c6]) (fun X hX=>hX.2) rfl Tryz.underlying24 rfl (by kernel_rfl) pQ rfl rfl rfl rfl rfl ?_
     refine Pl.ay rfl rfl rfl rfl rfl (fun u X=>Pl.enters Tryz.func117 (by kernel_rfl) rfl u X) ?_
     refine Calls.mono (zof _ 1 (by decide) (by decide)) ?_
     rintro e OB ⟨v14,rfl,ad1,aT⟩
     obtain ⟨A15,c16,rfl,G5⟩:=ad1
     have DD:=Pl.Ex.size aT
     have mO:=And.intro (Pl.Ex.trans pQ.1 aT) (Pl.Cb.ex pQ.2 aT)
     refine ⟨_,rfl,mO,?_⟩
     refine Pl.ay rfl rfl rfl rfl rfl (fun u X=>Pl.enters Tryz.func74 (by kernel_rfl) rfl u X) ?_
     refine Calls.mono (XB _ _ _ q 1 (Zn.of (Un.below u7 (Pl.Ex.trans rE (Pl.Ex.trans fu (Pl.Ex.trans dX (Pl.Ex.trans bG aT)))))) (Zn.of G5) (lq.le (by omega)) (Sz.lit (by decide) (by decide)) _ rfl) ?_
     rintro e Ml ⟨vt,rfl,hvt,gG⟩
     obtain ⟨At,ct,rfl,ut⟩:=hvt
     have DF:=Pl.Ex.size gG
     have jv:=And.intro (Pl.Ex.trans mO.1 gG) (Pl.Cb.ex mO.2 gG)
     refine ⟨_,rfl,jv,?_⟩
     refine Pl.bz (new:=[.bool (decide ((q+1)<0)),.slice At (limbs (Int.natAbs (q+1))).length ct]) (Pl.Cb.ex bV (Pl.Ex.trans aW (Pl.Ex.trans rE (Pl.Ex.trans fu (Pl.Ex.trans dX (Pl.Ex.trans bG (Pl.Ex.trans aT gG))))))) (by kernel_rfl) rfl (by simp [Value.oneCell']) rfl rfl rfl rfl rfl rfl (fun Y hY=>⟨Pl.Ex.xs jv.1 hY (by omega),Pl.Cb.xs jv.2 hY (by simp;omega)⟩) ?_
     intro JZ iD fO
     have bu:=Pl.Ex.xs (Pl.Ex.trans aP (Pl.Ex.trans aW (Pl.Ex.trans rE (Pl.Ex.trans fu (Pl.Ex.trans dX (Pl.Ex.trans bG (Pl.Ex.trans aT gG))))))) iD (by omega)
     have Fg:=Pl.Xs.size iD
     have DK:=And.intro (Pl.Ex.xs jv.1 iD (by omega)) (Pl.Cb.xs jv.2 iD (by simp;omega))
     have U5:=Pl.Cb.xs (Pl.Cb.ex xG (Pl.Ex.trans fu (Pl.Ex.trans dX (Pl.Ex.trans bG (Pl.Ex.trans aT gG))))) iD (by simp;omega)
     have U6:=Pl.Cb.xs (Pl.Cb.ex Al (Pl.Ex.trans fu (Pl.Ex.trans dX (Pl.Ex.trans bG (Pl.Ex.trans aT gG))))) iD (by simp;omega)
     have XZ:=Pl.Cb.xs (Pl.Cb.ex kNs (Pl.Ex.trans dX (Pl.Ex.trans bG (Pl.Ex.trans aT gG)))) iD (by simp;omega)
     refine Pl.aj ?_
     have k18:=Un.xs ut iD (Pl.Cb.ex bV (Pl.Ex.trans aW (Pl.Ex.trans rE (Pl.Ex.trans fu (Pl.Ex.trans dX (Pl.Ex.trans bG (Pl.Ex.trans aT gG))))))) (by simp)
     repeat refine Pl.af ?_
     exact Pl.aV rfl rfl fO Tryz.underlying24 rfl (by kernel_rfl) (⟨_,rfl,by rw [Ru hj hd (k:=ko) (by rw [hr];exact hko),hq,hr,hb];exact (Zn.of k18),(Pl.Ex.trans hE1 (Pl.Ex.trans hE2 (Pl.Ex.trans aJ bu)))⟩)
 · repeat refine Pl.af ?_
   refine Pl.uj (S:=fun X=>Pl.Ex w9 X) fo (Pl.Ex.trans (Pl.Ex.refl _) (Pl.Ex.drew _)) ?_
   have fu:=Pl.Ex.drew w9
   generalize w9.drew=Ic at *
   have TW:=Pl.Ex.size fu
   intro KR
   refine Pl.jk [(true,0,0),(true,1,1),(true,4,3),(true,6,19)] 83 7 Pl.aR (by kernel_rfl) (by kernel_rfl) (by kernel_rfl) ?_
   refine Pl.bn (part:=[.bool (decide (q<0)),.slice A5 (limbs (Int.natAbs q)).length c6]) (fun X hX=>Pl.Cb.ex xG hX) rfl Tryz.underlying24 rfl (by kernel_rfl) KR rfl rfl rfl rfl rfl ?_
   refine Pl.bn (part:=[.bool (decide (r<0)),.slice A8 (limbs (Int.natAbs r)).length c9]) (fun X hX=>Pl.Cb.ex Al hX) rfl Tryz.underlying24 rfl (by kernel_rfl) KR rfl rfl rfl rfl rfl ?_
   refine Pl.bn (part:=[.bool (decide (r<0)),.slice A8 (limbs (Int.natAbs r)).length c9]) (fun X hX=>Pl.Cb.ex Al hX) rfl Tryz.underlying24 rfl (by kernel_rfl) KR rfl rfl rfl rfl rfl ?_
   refine Pl.bn (part:=[.bool (decide (d<0)),.slice Ad (limbs (Int.natAbs d)).length cd]) (fun X hX=>Pl.Cb.ex (Pl.Cb.ex aY (Pl.Ex.trans aP (Pl.Ex.trans aW rE))) hX) rfl Tryz.underlying24 rfl (by kernel_rfl) KR rfl rfl rfl rfl rfl ?_
   refine Pl.aj ?_
   refine Pl.uP [2,9] 6 (by kernel_rfl) (by kernel_rfl) (by kernel_rfl) (Pl.dO ?_ (Pl.dO ?_ Pl.jU))
   · refine Pl.ay rfl rfl rfl rfl rfl (fun u X=>Pl.enters Tryz.func60 (by kernel_rfl) rfl u X) ?_
     refine Calls.mono (Cr _ _ r (Zn.of (Un.below zK (Pl.Ex.trans rE fu))) _ rfl) ?_
     rintro e Oz ⟨rfl,dX⟩
     obtain ⟨ks,qks⟩:∃ q,Int.sign r=q:=⟨_,rfl⟩
     rw [qks]
     have gks:=qL qks
     have NC:=Pl.Ex.size dX
     have xH:=Pl.Ex.trans KR dX
     refine ⟨_,rfl,xH,?_⟩
     refine Pl.aj ?_
     refine Pl.jk [(true,3,87)] 95 5 Pl.aR (by kernel_rfl) (by kernel_rfl) (by kernel_rfl) ?_
     refine Pl.bP (v:=.bool (decide (0<r))) (fun X=>Pl.Bw (decide_eq_decide.2 (by omega)) X) xH rfl rfl rfl rfl rfl rfl ?_
     refine Pl.aj ?_
     refine Pl.uP [5,9] 4 (by kernel_rfl) (by kernel_rfl) (by kernel_rfl) (Pl.dO ?_ (Pl.dO ?_ Pl.jU))
     · refine Pl.ay rfl rfl rfl rfl rfl (fun u X=>Pl.enters Tryz.func65 (by kernel_rfl) rfl u X) ?_
       refine Calls.mono (kH _ _ r 1 (Zn.of (Un.below zK (Pl.Ex.trans rE (Pl.Ex.trans fu dX)))) (Nat.le_trans lr (by omega)) (by decide) (by decide) (shl r 1) rfl) ?_
       rintro e OA ⟨vs,rfl,hvs,bG⟩
       obtain ⟨As,cs,rfl,us⟩:=hvs
       have DC:=Pl.Ex.size bG
       have pQ:=Pl.Ex.trans xH bG
       refine ⟨_,rfl,pQ,?_⟩
       refine Pl.aj ?_
       refine Pl.uP [7,9] 3 (by kernel_rfl) (by kernel_rfl) (by kernel_rfl) (Pl.dO ?_ (Pl.dO ?_ Pl.jU))
       · refine Pl.ay rfl rfl rfl rfl rfl (fun u X=>Pl.enters Tryz.func70 (by kernel_rfl) rfl u X) ?_
         refine Calls.mono (QG _ _ _ (shl r 1) d (Zn.of us) (Zn.of (Un.below ud (Pl.Ex.trans hE1 (Pl.Ex.trans hE2 (Pl.Ex.trans aJ (Pl.Ex.trans aP (Pl.Ex.trans aW (Pl.Ex.trans rE (Pl.Ex.trans fu (Pl.Ex.trans dX bG)))))))))) _ rfl) ?_
         rintro e OB ⟨rfl,aT⟩
         obtain ⟨k1,NP⟩:∃ q,bZ (shl r 1) d=q:=⟨_,rfl⟩
         rw [NP]
         have DD:=Pl.Ex.size aT
         have mO:=Pl.Ex.trans pQ aT
         refine ⟨_,rfl,mO,?_⟩
         refine Pl.aj ?_
         refine Pl.jk [(true,8,255),(false,9,511),(false,10,1023)] 2047 0 Pl.aR (by kernel_rfl) (by kernel_rfl) (by kernel_rfl) ?_
         refine Pl.aL (.agg #[.bool (decide (q<0)),.slice A5 (limbs (Int.natAbs q)).length c6,.bool (decide (0<r)),.int .i64 k1]) mO rfl rfl rfl rfl (fun X=>by kernel_rfl) ?_
         refine Pl.bK (z:=.agg #[.bool false,.slice none 0 0,.bool false,.int .i64 0]) (by kernel_rfl) rfl rfl rfl rfl (fun Y hY=>Pl.Ex.trans mO hY) ?_
         intro KS Ml gG KT gT
         have Rx:=Pl.Cb.lt gT
         have DF:=Pl.Ex.size gG
         replace gT:Pl.Cb Ml KS 116 [.bool false,.slice none 0 0,.bool false,.int .i64 0]:=gT
         have jv:=Pl.Ex.trans mO gG
         refine Pl.bz (new:=[.bool (decide (q<0)),.slice A5 (limbs (Int.natAbs q)).length c6,.bool (decide (0<r)),.int .i64 k1]) gT (by kernel_rfl) rfl (by simp [Value.oneCell']) rfl rfl rfl rfl rfl rfl (fun Y hY=>Pl.Ex.xs jv hY (by omega)) ?_
         intro JZ iD qX
         have bu:=Pl.Ex.xs gG iD (by omega)
         have Fg:=Pl.Xs.size iD
         have DK:=Pl.Ex.xs jv iD (by omega)
         refine Pl.aj ?_
         refine Pl.Kj (by kernel_rfl) ?_
         refine Pl.lI [(3,.pointer (some ⟨N1,0,none⟩)),(4,.pointer (some ⟨N2,0,none⟩)),(5,.pointer (some ⟨N3,0,none⟩)),(6,.pointer (some ⟨N4,0,none⟩)),(7,.pointer (some ⟨Rv,0,none⟩)),(8,.pointer (some ⟨YG,0,none⟩)),(10,.pointer (some ⟨KS,0,none⟩))] (Pl.aC rfl (Pl.aC rfl (Pl.aC rfl (Pl.aC rfl (Pl.aC rfl (Pl.aC rfl (Pl.aC rfl Pl.dW))))))) ?_
         exact FJ _ _ ⟨KS,k1,(Pl.Ex.trans fu (Pl.Ex.trans dX (Pl.Ex.trans bG (Pl.Ex.trans aT bu)))),qX,(by omega),NP,rfl⟩
       · refine Pl.bK (z:=.agg #[.bool false,.slice none 0 0,.bool false,.int .i64 0]) (by kernel_rfl) rfl rfl rfl rfl (fun Y hY=>Pl.Ex.trans pQ hY) ?_
         intro KS OB aT KT gT
         have Rx:=Pl.Cb.lt gT
         have DD:=Pl.Ex.size aT
         replace gT:Pl.Cb OB KS 116 [.bool false,.slice none 0 0,.bool false,.int .i64 0]:=gT
         have mO:=Pl.Ex.trans pQ aT
         refine Pl.aj ?_
         refine Pl.jk [(false,7,639),(true,8,767),(false,10,1023)] 2047 0 Pl.aR (by kernel_rfl) (by kernel_rfl) (by kernel_rfl) ?_
         refine Pl.ay rfl rfl rfl rfl rfl (fun u X=>Pl.enters Tryz.func70 (by kernel_rfl) rfl u X) ?_
         refine Calls.mono (QG _ _ _ (shl r 1) d (Zn.of (Un.below us aT)) (Zn.of (Un.below ud (Pl.Ex.trans hE1 (Pl.Ex.trans hE2 (Pl.Ex.trans aJ (Pl.Ex.trans aP (Pl.Ex.trans aW (Pl.Ex.trans rE (Pl.Ex.trans fu (Pl.Ex.trans dX (Pl.Ex.trans bG aT))))))))))) _ rfl) ?_
         rintro e Ml ⟨rfl,gG⟩
         obtain ⟨k1,NP⟩:∃ q,bZ (shl r 1) d=q:=⟨_,rfl⟩
         rw [NP]
         have DF:=Pl.Ex.size gG
         have jv:=Pl.Ex.trans mO gG
         refine ⟨_,rfl,jv,?_⟩
         refine Pl.aL (.agg #[.bool (decide (q<0)),.slice A5 (limbs (Int.natAbs q)).length c6,.bool (decide (0<r)),.int .i64 k1]) jv rfl rfl rfl rfl (fun X=>by kernel_rfl) ?_
         refine Pl.bz (new:=[.bool (decide (q<0)),.slice A5 (limbs (Int.natAbs q)).length c6,.bool (decide (0<r)),.int .i64 k1]) (Pl.Cb.ex gT gG) (by kernel_rfl) rfl (by simp [Value.oneCell']) rfl rfl rfl rfl rfl rfl (fun Y hY=>Pl.Ex.xs jv hY (by omega)) ?_
         intro JZ iD qX
         have bu:=Pl.Ex.xs (Pl.Ex.trans aT gG) iD (by omega)
         have Fg:=Pl.Xs.size iD
         have DK:=Pl.Ex.xs jv iD (by omega)
         refine Pl.aj ?_
         refine Pl.Kj (by kernel_rfl) ?_
         refine Pl.lI [(3,.pointer (some ⟨N1,0,none⟩)),(4,.pointer (some ⟨N2,0,none⟩)),(5,.pointer (some ⟨N3,0,none⟩)),(6,.pointer (some ⟨N4,0,none⟩)),(7,.pointer (some ⟨Rv,0,none⟩)),(8,.pointer (some ⟨YG,0,none⟩)),(10,.pointer (some ⟨KS,0,none⟩))] (Pl.aC rfl (Pl.aC rfl (Pl.aC rfl (Pl.aC rfl (Pl.aC rfl (Pl.aC rfl (Pl.aC rfl Pl.dW))))))) ?_
         exact FJ _ _ ⟨KS,k1,(Pl.Ex.trans fu (Pl.Ex.trans dX (Pl.Ex.trans bG bu))),qX,(by omega),NP,rfl⟩
     · refine Pl.bK (z:=.agg #[.bool false,.slice none 0 0,.bool false,.int .i64 0]) (by kernel_rfl) rfl rfl rfl rfl (fun Y hY=>Pl.Ex.trans xH hY) ?_
       intro KS OA bG KT gT
       have Rx:=Pl.Cb.lt gT
       have DC:=Pl.Ex.size bG
       replace gT:Pl.Cb OA KS 116 [.bool false,.slice none 0 0,.bool false,.int .i64 0]:=gT
       have pQ:=Pl.Ex.trans xH bG
       refine Pl.aj ?_
       refine Pl.jk [(false,5,607),(false,7,639),(true,8,767),(false,10,1023)] 2047 0 Pl.aR (by kernel_rfl) (by kernel_rfl) (by kernel_rfl) ?_
       refine Pl.ay rfl rfl rfl rfl rfl (fun u X=>Pl.enters Tryz.func65 (by kernel_rfl) rfl u X) ?_
       refine Calls.mono (kH _ _ r 1 (Zn.of (Un.below zK (Pl.Ex.trans rE (Pl.Ex.trans fu (Pl.Ex.trans dX bG))))) (Nat.le_trans lr (by omega)) (by decide) (by decide) (shl r 1) rfl) ?_
       rintro e OB ⟨vs,rfl,hvs,aT⟩
       obtain ⟨As,cs,rfl,us⟩:=hvs
       have DD:=Pl.Ex.size aT
       have mO:=Pl.Ex.trans pQ aT
       refine ⟨_,rfl,mO,?_⟩
       refine Pl.ay rfl rfl rfl rfl rfl (fun u X=>Pl.enters Tryz.func70 (by kernel_rfl) rfl u X) ?_
       refine Calls.mono (QG _ _ _ (shl r 1) d (Zn.of us) (Zn.of (Un.below ud (Pl.Ex.trans hE1 (Pl.Ex.trans hE2 (Pl.Ex.trans aJ (Pl.Ex.trans aP (Pl.Ex.trans aW (Pl.Ex.trans rE (Pl.Ex.trans fu (Pl.Ex.trans dX (Pl.Ex.trans bG aT))))))))))) _ rfl) ?_
       rintro e Ml ⟨rfl,gG⟩
       obtain ⟨k1,NP⟩:∃ q,bZ (shl r 1) d=q:=⟨_,rfl⟩
       rw [NP]
       have DF:=Pl.Ex.size gG
       have jv:=Pl.Ex.trans mO gG
       refine ⟨_,rfl,jv,?_⟩
       refine Pl.aL (.agg #[.bool (decide (q<0)),.slice A5 (limbs (Int.natAbs q)).length c6,.bool (decide (0<r)),.int .i64 k1]) jv rfl rfl rfl rfl (fun X=>by kernel_rfl) ?_
       refine Pl.bz (new:=[.bool (decide (q<0)),.slice A5 (limbs (Int.natAbs q)).length c6,.bool (decide (0<r)),.int .i64 k1]) (Pl.Cb.ex gT (Pl.Ex.trans aT gG)) (by kernel_rfl) rfl (by simp [Value.oneCell']) rfl rfl rfl rfl rfl rfl (fun Y hY=>Pl.Ex.xs jv hY (by omega)) ?_
       intro JZ iD qX
       have bu:=Pl.Ex.xs (Pl.Ex.trans bG (Pl.Ex.trans aT gG)) iD (by omega)
       have Fg:=Pl.Xs.size iD
       have DK:=Pl.Ex.xs jv iD (by omega)
       refine Pl.aj ?_
       refine Pl.Kj (by kernel_rfl) ?_
       refine Pl.lI [(3,.pointer (some ⟨N1,0,none⟩)),(4,.pointer (some ⟨N2,0,none⟩)),(5,.pointer (some ⟨N3,0,none⟩)),(6,.pointer (some ⟨N4,0,none⟩)),(7,.pointer (some ⟨Rv,0,none⟩)),(8,.pointer (some ⟨YG,0,none⟩)),(10,.pointer (some ⟨KS,0,none⟩))] (Pl.aC rfl (Pl.aC rfl (Pl.aC rfl (Pl.aC rfl (Pl.aC rfl (Pl.aC rfl (Pl.aC rfl Pl.dW))))))) ?_
       exact FJ _ _ ⟨KS,k1,(Pl.Ex.trans fu (Pl.Ex.trans dX bu)),qX,(by omega),NP,rfl⟩
   · refine Pl.bK (z:=.agg #[.bool false,.slice none 0 0,.bool false,.int .i64 0]) (by kernel_rfl) rfl rfl rfl rfl (fun Y hY=>Pl.Ex.trans KR hY) ?_
     intro KS Oz dX KT gT
     have Rx:=Pl.Cb.lt gT
     have NC:=Pl.Ex.size dX
     replace gT:Pl.Cb Oz KS 116 [.bool false,.slice none 0 0,.bool false,.int .i64 0]:=gT
     have xH:=Pl.Ex.trans KR dX
     refine Pl.aj ?_
     refine Pl.jk [(false,2,595),(true,3,599),(false,5,607),(false,7,639),(true,8,767),(false,10,1023)] 2047 0 Pl.aR (by kernel_rfl) (by kernel_rfl) (by kernel_rfl) ?_
     refine Pl.ay rfl rfl rfl rfl rfl (fun u X=>Pl.enters Tryz.func60 (by kernel_rfl) rfl u X) ?_
     refine Calls.mono (Cr _ _ r (Zn.of (Un.below zK (Pl.Ex.trans rE (Pl.Ex.trans fu dX)))) _ rfl) ?_
     rintro e OA ⟨rfl,bG⟩
     obtain ⟨ks,qks⟩:∃ q,Int.sign r=q:=⟨_,rfl⟩
     rw [qks]
     have gks:=qL qks
     have DC:=Pl.Ex.size bG
     have pQ:=Pl.Ex.trans xH bG
     refine ⟨_,rfl,pQ,?_⟩
     refine Pl.bP (v:=.bool (decide (0<r))) (fun X=>Pl.Bw (decide_eq_decide.2 (by omega)) X) pQ rfl rfl rfl rfl rfl rfl ?_
     refine Pl.ay rfl rfl rfl rfl rfl (fun u X=>Pl.enters Tryz.func65 (by kernel_rfl) rfl u X) ?_
     refine Calls.mono (kH _ _ r 1 (Zn.of (Un.below zK (Pl.Ex.trans rE (Pl.Ex.trans fu (Pl.Ex.trans dX bG))))) (Nat.le_trans lr (by omega)) (by decide) (by decide) (shl r 1) rfl) ?_
     rintro e OB ⟨vs,rfl,hvs,aT⟩
     obtain ⟨As,cs,rfl,us⟩:=hvs
     have DD:=Pl.Ex.size aT
     have mO:=Pl.Ex.trans pQ aT
     refine ⟨_,rfl,mO,?_⟩
     refine Pl.ay rfl rfl rfl rfl rfl (fun u X=>Pl.enters Tryz.func70 (by kernel_rfl) rfl u X) ?_
     refine Calls.mono (QG _ _ _ (shl r 1) d (Zn.of us) (Zn.of (Un.below ud (Pl.Ex.trans hE1 (Pl.Ex.trans hE2 (Pl.Ex.trans aJ (Pl.Ex.trans aP (Pl.Ex.trans aW (Pl.Ex.trans rE (Pl.Ex.trans fu (Pl.Ex.trans dX (Pl.Ex.trans bG aT))))))))))) _ rfl) ?_
     rintro e Ml ⟨rfl,gG⟩
     obtain ⟨k1,NP⟩:∃ q,bZ (shl r 1) d=q:=⟨_,rfl⟩
     rw [NP]
     have DF:=Pl.Ex.size gG
     have jv:=Pl.Ex.trans mO gG
     refine ⟨_,rfl,jv,?_⟩
     refine Pl.aL (.agg #[.bool (decide (q<0)),.slice A5 (limbs (Int.natAbs q)).length c6,.bool (decide (0<r)),.int .i64 k1]) jv rfl rfl rfl rfl (fun X=>by kernel_rfl) ?_
     refine Pl.bz (new:=[.bool (decide (q<0)),.slice A5 (limbs (Int.natAbs q)).length c6,.bool (decide (0<r)),.int .i64 k1]) (Pl.Cb.ex gT (Pl.Ex.trans bG (Pl.Ex.trans aT gG))) (by kernel_rfl) rfl (by simp [Value.oneCell']) rfl rfl rfl rfl rfl rfl (fun Y hY=>Pl.Ex.xs jv hY (by omega)) ?_
     intro JZ iD qX
     have bu:=Pl.Ex.xs (Pl.Ex.trans dX (Pl.Ex.trans bG (Pl.Ex.trans aT gG))) iD (by omega)
     have Fg:=Pl.Xs.size iD
     have DK:=Pl.Ex.xs jv iD (by omega)
     refine Pl.aj ?_
     refine Pl.Kj (by kernel_rfl) ?_
     refine Pl.lI [(3,.pointer (some ⟨N1,0,none⟩)),(4,.pointer (some ⟨N2,0,none⟩)),(5,.pointer (some ⟨N3,0,none⟩)),(6,.pointer (some ⟨N4,0,none⟩)),(7,.pointer (some ⟨Rv,0,none⟩)),(8,.pointer (some ⟨YG,0,none⟩)),(10,.pointer (some ⟨KS,0,none⟩))] (Pl.aC rfl (Pl.aC rfl (Pl.aC rfl (Pl.aC rfl (Pl.aC rfl (Pl.aC rfl (Pl.aC rfl Pl.dW))))))) ?_
     exact FJ _ _ ⟨KS,k1,(Pl.Ex.trans fu bu),qX,(by omega),NP,rfl⟩
end Go.Proofs.YtdpmbgomcjnohaaGreatDoor
