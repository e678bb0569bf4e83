/- The laws: what the document fixes. -/
import Derived.Test.YtdpmbgomcjnohaaGreatDoorBbd

namespace Go.Proofs.YtdpmbgomcjnohaaGreatDoor
open Go.RowKit 
set_option linter.all false
set_option maxRecDepth 100000
set_option maxHeartbeats 8000000
theorem sH (w:World) (hg:Gt w) :
  Calls Tryz.prog 12 #[] w fun e w'=>e = .returned (.bool true)∧Pl.Ex w w':=by
 refine Pl.bL (n:=193) (vs:=[]) Tryz.func12 rfl (by kernel_rfl) (by simp) ?_
 repeat refine Pl.ay ?_
 refine Pl.aB (by kernel_rfl) ?_
 refine Pl.aG trivial rfl ?_
 refine Pl.af ?_
 repeat refine Pl.ay ?_
 refine Pl.aB (by kernel_rfl) ?_
 refine Pl.ah rfl rfl rfl rfl rfl (fun u X=>Pl.enters Tryz.func57 (by kernel_rfl) rfl u X) ?_
 refine Calls.mono (xk _ 1 3 (by decide) (by decide) (by decide)) ?_
 rintro e w1 ⟨v1,rfl,hv1,hE1⟩
 obtain ⟨A2,c3,A4,c5,rfl,u6,u7,q8z,q8d⟩:=hv1
 have mH:=Pl.Ex.size hE1
 refine ⟨_,rfl,trivial,?_⟩
 refine Pl.ah rfl rfl rfl rfl rfl (fun u X=>Pl.enters Tryz.func39 (by kernel_rfl) rfl u X) ?_
 refine Calls.mono (oh _ (hg.ext hE1) _ (Rat.divInt 1 3) (2:Int) 0 (by decide) 1 1 1 (Qn.mk u6 u7 q8z q8d) (by decide) (by omega) (-2) 94 (by omega) (by omega) (by decide) (by decide)) ?_
 rintro e w2 ⟨v9,rfl,hv9,hE2⟩
 obtain ⟨m10,e11,CK,c13,rfl,JF,d15⟩:=hv9
 have as6:=d15.lo
 have as7:=d15.hi
 have mY:=Pl.Ex.size hE2
 refine ⟨_,rfl,trivial,?_⟩
 refine Pl.aG trivial rfl ?_
 refine Pl.aU (z:=.agg #[.bool false,.slice none 0 0,.int .i64 0]) (by kernel_rfl) rfl rfl rfl rfl (fun Y hY=>trivial) ?_
 intro N16 w3 aO Wi tX
 have ab3:=Pl.Cb.lt tX
 have mZ:=Pl.Ex.size aO
 replace tX:Pl.Cb w3 N16 26 [.bool false,.slice none 0 0,.int .i64 0]:=tX
 refine Pl.bg (new:=[.bool (decide (m10<0)),.slice CK (limbs (Int.natAbs m10)).length c13,.int .i64 e11]) tX (by kernel_rfl) rfl (by simp [Value.oneCell']) rfl rfl rfl rfl rfl rfl (fun Y hY=>trivial) ?_
 intro w4 yH JG
 have aR:=Pl.Ex.xs aO yH (by omega)
 have l9:=Pl.Xs.size yH
 refine Pl.aG trivial rfl ?_
 refine Pl.af ?_
 repeat refine Pl.ay ?_
 refine Pl.aB (by kernel_rfl) ?_
 refine Pl.ah rfl rfl rfl rfl rfl (fun u X=>Pl.enters Tryz.func57 (by kernel_rfl) rfl u X) ?_
 refine Calls.mono (xk _ 1 3 (by decide) (by decide) (by decide)) ?_
 rintro e w5 ⟨v17,rfl,WB,aP⟩
 obtain ⟨A18,c19,TE,c21,rfl,u22,u23,WC,WE⟩:=WB
 have jY:=Pl.Ex.size aP
 refine ⟨_,rfl,trivial,?_⟩
 refine Pl.ah rfl rfl rfl rfl rfl (fun u X=>Pl.enters Tryz.func39 (by kernel_rfl) rfl u X) ?_
 refine Calls.mono (oh _ (hg.ext (Pl.Ex.trans hE1 (Pl.Ex.trans hE2 (Pl.Ex.trans aR aP)))) _ (Rat.divInt 1 3) (2:Int) 1 (by decide) 1 1 1 (Qn.mk u22 u23 WC WE) (by decide) (by omega) (-2) 94 (by omega) (by omega) (by decide) (by decide)) ?_
 rintro e w6 ⟨v25,rfl,hv25,aM⟩
 obtain ⟨m26,e27,A28,c29,rfl,u30,EL⟩:=hv25
 have adl:=EL.lo
 have adm:=EL.hi
 have jr:=Pl.Ex.size aM
 refine ⟨_,rfl,trivial,?_⟩
 refine Pl.aG trivial rfl ?_
 refine Pl.aU (z:=.agg #[.bool false,.slice none 0 0,.int .i64 0]) (by kernel_rfl) rfl rfl rfl rfl (fun Y hY=>trivial) ?_
 intro N32 w7 aH alX JO
 have ao6:=Pl.Cb.lt JO
 have iU:=Pl.Ex.size aH
 replace JO:Pl.Cb w7 N32 26 [.bool false,.slice none 0 0,.int .i64 0]:=JO
 refine Pl.bg (new:=[.bool (decide (m26<0)),.slice A28 (limbs (Int.natAbs m26)).length c29,.int .i64 e27]) JO (by kernel_rfl) rfl (by simp [Value.oneCell']) rfl rfl rfl rfl rfl rfl (fun Y hY=>trivial) ?_
 intro w8 eX abg
 have bu:=Pl.Ex.xs aH eX (by omega)
 have mh:=Pl.Xs.size eX
 refine Pl.aG trivial rfl ?_
 refine Pl.af ?_
 repeat refine Pl.ay ?_
 refine Pl.aB (by kernel_rfl) ?_
 refine Pl.ah rfl rfl rfl rfl rfl (fun u X=>Pl.enters Tryz.func57 (by kernel_rfl) rfl u X) ?_
 refine Calls.mono (xk _ 1 3 (by decide) (by decide) (by decide)) ?_
 rintro e w9 ⟨v33,rfl,alY,dh⟩
 obtain ⟨A34,c35,A36,c37,rfl,u38,u39,alZ,al0⟩:=alY
 have pG:=Pl.Ex.size dh
 refine ⟨_,rfl,trivial,?_⟩
 refine Pl.ah rfl rfl rfl rfl rfl (fun u X=>Pl.enters Tryz.func39 (by kernel_rfl) rfl u X) ?_
 refine Calls.mono (oh _ (hg.ext (Pl.Ex.trans hE1 (Pl.Ex.trans hE2 (Pl.Ex.trans aR (Pl.Ex.trans aP (Pl.Ex.trans aM (Pl.Ex.trans bu dh))))))) _ (Rat.divInt 1 3) (2:Int) 4 (by decide) 1 1 1 (Qn.mk u38 u39 alZ al0) (by decide) (by omega) (-2) 94 (by omega) (by omega) (by decide) (by decide)) ?_
 rintro e qD ⟨v41,rfl,al1,bf⟩
 obtain ⟨m42,e43,A44,c45,rfl,u46,d47⟩:=al1
 have as9:=d47.lo
 have ata:=d47.hi
 have mD:=Pl.Ex.size bf
 refine ⟨_,rfl,trivial,?_⟩
 refine Pl.aG trivial rfl ?_
 refine Pl.aU (z:=.agg #[.bool false,.slice none 0 0,.int .i64 0]) (by kernel_rfl) rfl rfl rfl rfl (fun Y hY=>trivial) ?_
 intro N48 uV bI al2 JP
 have ao9:=Pl.Cb.lt JP
 have qx:=Pl.Ex.size bI
 replace JP:Pl.Cb uV N48 26 [.bool false,.slice none 0 0,.int .i64 0]:=JP
 refine Pl.bg (new:=[.bool (decide (m42<0)),.slice A44 (limbs (Int.natAbs m42)).length c45,.int .i64 e43]) JP (by kernel_rfl) rfl (by simp [Value.oneCell']) rfl rfl rfl rfl rfl rfl (fun Y hY=>trivial) ?_
 intro yu fD abh
 have bY:=Pl.Ex.xs bI fD (by omega)
 have qQ:=Pl.Xs.size fD
 refine Pl.aG trivial rfl ?_
 refine Pl.af ?_
 repeat refine Pl.ay ?_
 refine Pl.aB (by kernel_rfl) ?_
 refine Pl.ah rfl rfl rfl rfl rfl (fun u X=>Pl.enters Tryz.func57 (by kernel_rfl) rfl u X) ?_
 refine Calls.mono (xk _ 3 8 (by decide) (by decide) (by decide)) ?_
 rintro e yM ⟨v49,rfl,ac9,bM⟩
 obtain ⟨A50,c51,A52,c53,rfl,u54,u55,ac',ada⟩:=ac9
 have rE:=Pl.Ex.size bM
 refine ⟨_,rfl,trivial,?_⟩
 refine Pl.ah rfl rfl rfl rfl rfl (fun u X=>Pl.enters Tryz.func39 (by kernel_rfl) rfl u X) ?_
 refine Calls.mono (oh _ (hg.ext (Pl.Ex.trans hE1 (Pl.Ex.trans hE2 (Pl.Ex.trans aR (Pl.Ex.trans aP (Pl.Ex.trans aM (Pl.Ex.trans bu (Pl.Ex.trans dh (Pl.Ex.trans bf (Pl.Ex.trans bY bM)))))))))) _ (Rat.divInt 3 8) (2:Int) 4 (by decide) 1 1 1 (Qn.mk u54 u55 ac' ada) (by decide) (by omega) (-2) 94 (by omega) (by omega) (by decide) (by decide)) ?_
 rintro e FV ⟨v57,rfl,QF,ed⟩
 obtain ⟨m58,e59,A60,c61,rfl,u62,KN⟩:=QF
 have agk:=KN.lo
 have agl:=KN.hi
 have zK:=Pl.Ex.size ed
 refine ⟨_,rfl,trivial,?_⟩
 refine Pl.aG trivial rfl ?_
 refine Pl.aU (z:=.agg #[.bool false,.slice none 0 0,.int .i64 0]) (by kernel_rfl) rfl rfl rfl rfl (fun Y hY=>trivial) ?_
 intro N64 IA dK al3 JQ
 have ao':=Pl.Cb.lt JQ
 have Cz:=Pl.Ex.size dK
 replace JQ:Pl.Cb IA N64 26 [.bool false,.slice none 0 0,.int .i64 0]:=JQ
 refine Pl.bg (new:=[.bool (decide (m58<0)),.slice A60 (limbs (Int.natAbs m58)).length c61,.int .i64 e59]) JQ (by kernel_rfl) rfl (by simp [Value.oneCell']) rfl rfl rfl rfl rfl rfl (fun Y hY=>trivial) ?_
 intro w16 Uw abj
 have dW:=Pl.Ex.xs dK Uw (by omega)
 have LA:=Pl.Xs.size Uw
 refine Pl.aG trivial rfl ?_
 refine Pl.af ?_
 repeat refine Pl.ay ?_
 refine Pl.aB (by kernel_rfl) ?_
 refine Pl.ah rfl rfl rfl rfl rfl (fun u X=>Pl.enters Tryz.func57 (by kernel_rfl) rfl u X) ?_
 refine Calls.mono (xk _ 5 8 (by decide) (by decide) (by decide)) ?_
 rintro e Oa ⟨v65,rfl,ade,eu⟩
 obtain ⟨A66,c67,A68,c69,rfl,u70,u71,al4,al5⟩:=ade
 have LC:=Pl.Ex.size eu
 refine ⟨_,rfl,trivial,?_⟩
 refine Pl.ah rfl rfl rfl rfl rfl (fun u X=>Pl.enters Tryz.func39 (by kernel_rfl) rfl u X) ?_
 refine Calls.mono (oh _ (hg.ext (Pl.Ex.trans hE1 (Pl.Ex.trans hE2 (Pl.Ex.trans aR (Pl.Ex.trans aP (Pl.Ex.trans aM (Pl.Ex.trans bu (Pl.Ex.trans dh (Pl.Ex.trans bf (Pl.Ex.trans bY (Pl.Ex.trans bM (Pl.Ex.trans ed (Pl.Ex.trans dW eu))))))))))))) _ (Rat.divInt 5 8) (2:Int) 4 (by decide) 1 1 1 (Qn.mk u70 u71 al4 al5) (by decide) (by omega) (-2) 94 (by omega) (by omega) (by decide) (by decide)) ?_
 rintro e OH ⟨v73,rfl,al6,dZ⟩
 obtain ⟨m74,e75,A76,c77,rfl,u78,d79⟩:=al6
 have ate:=d79.lo
 have atf:=d79.hi
 have J6:=Pl.Ex.size dZ
 refine ⟨_,rfl,trivial,?_⟩
 refine Pl.aG trivial rfl ?_
 refine Pl.aU (z:=.agg #[.bool false,.slice none 0 0,.int .i64 0]) (by kernel_rfl) rfl rfl rfl rfl (fun Y hY=>trivial) ?_
 intro N80 Vd fu al7 JR
 have apd:=Pl.Cb.lt JR
 have J7:=Pl.Ex.size fu
 replace JR:Pl.Cb Vd N80 26 [.bool false,.slice none 0 0,.int .i64 0]:=JR
 refine Pl.bg (new:=[.bool (decide (m74<0)),.slice A76 (limbs (Int.natAbs m74)).length c77,.int .i64 e75]) JR (by kernel_rfl) rfl (by simp [Value.oneCell']) rfl rfl rfl rfl rfl rfl (fun Y hY=>trivial) ?_
 intro Y5 ahk abk
 have hE20:=Pl.Ex.xs fu ahk (by omega)
 have LD:=Pl.Xs.size ahk
 refine Pl.aG trivial rfl ?_
 refine Pl.af ?_
 repeat refine Pl.ay ?_
 refine Pl.aB (by kernel_rfl) ?_
 refine Pl.ah rfl rfl rfl rfl rfl (fun u X=>Pl.enters Tryz.func57 (by kernel_rfl) rfl u X) ?_
 refine Calls.mono (xk _ (-1) 3 (by decide) (by decide) (by decide)) ?_
 rintro e Vg ⟨v81,rfl,ads,fT⟩
 obtain ⟨A82,c83,A84,c85,rfl,u86,u87,al8,al9⟩:=ads
 have OI:=Pl.Ex.size fT
 refine ⟨_,rfl,trivial,?_⟩
 refine Pl.ah rfl rfl rfl rfl rfl (fun u X=>Pl.enters Tryz.func39 (by kernel_rfl) rfl u X) ?_
 refine Calls.mono (oh _ (hg.ext (Pl.Ex.trans hE1 (Pl.Ex.trans hE2 (Pl.Ex.trans aR (Pl.Ex.trans aP (Pl.Ex.trans aM (Pl.Ex.trans bu (Pl.Ex.trans dh (Pl.Ex.trans bf (Pl.Ex.trans bY (Pl.Ex.trans bM (Pl.Ex.trans ed (Pl.Ex.trans dW (Pl.Ex.trans eu (Pl.Ex.trans dZ (Pl.Ex.trans hE20 fT)))))))))))))))) _ (Rat.divInt (-1) 3) (2:Int) 2 (by decide) 1 1 1 (Qn.mk u86 u87 al8 al9) (by decide) (by omega) (-2) 94 (by omega) (by omega) (by decide) (by decide)) ?_
 rintro e w22 ⟨v89,rfl,ama,gF⟩
 obtain ⟨m90,e91,A92,c93,rfl,u94,d95⟩:=ama
 have atj:=d95.lo
 have atl:=d95.hi
 have OJ:=Pl.Ex.size gF
 refine ⟨_,rfl,trivial,?_⟩
 refine Pl.aG trivial rfl ?_
 refine Pl.aU (z:=.agg #[.bool false,.slice none 0 0,.int .i64 0]) (by kernel_rfl) rfl rfl rfl rfl (fun Y hY=>trivial) ?_
 intro N96 ZY iH amb JS
 have apg:=Pl.Cb.lt JS
 have OL:=Pl.Ex.size iH
 replace JS:Pl.Cb ZY N96 26 [.bool false,.slice none 0 0,.int .i64 0]:=JS
 refine Pl.bg (new:=[.bool (decide (m90<0)),.slice A92 (limbs (Int.natAbs m90)).length c93,.int .i64 e91]) JS (by kernel_rfl) rfl (by simp [Value.oneCell']) rfl rfl rfl rfl rfl rfl (fun Y hY=>trivial) ?_
 intro ZZ ahl abl
 have gY:=Pl.Ex.xs iH ahl (by omega)
 have OM:=Pl.Xs.size ahl
 refine Pl.aG trivial rfl ?_
 refine Pl.af ?_
 repeat refine Pl.ay ?_
 refine Pl.aB (by kernel_rfl) ?_
 refine Pl.ah rfl rfl rfl rfl rfl (fun u X=>Pl.enters Tryz.func57 (by kernel_rfl) rfl u X) ?_
 refine Calls.mono (xk _ (-1) 3 (by decide) (by decide) (by decide)) ?_
 rintro e w25 ⟨v97,rfl,amc,iM⟩
 obtain ⟨A98,c99,atn,ato,rfl,amd,ame,ahm,ahn⟩:=amc
 have VM:=Pl.Ex.size iM
 refine ⟨_,rfl,trivial,?_⟩
 refine Pl.ah rfl rfl rfl rfl rfl (fun u X=>Pl.enters Tryz.func39 (by kernel_rfl) rfl u X) ?_
 refine Calls.mono (oh _ (hg.ext (Pl.Ex.trans hE1 (Pl.Ex.trans hE2 (Pl.Ex.trans aR (Pl.Ex.trans aP (Pl.Ex.trans aM (Pl.Ex.trans bu (Pl.Ex.trans dh (Pl.Ex.trans bf (Pl.Ex.trans bY (Pl.Ex.trans bM (Pl.Ex.trans ed (Pl.Ex.trans dW (Pl.Ex.trans eu (Pl.Ex.trans dZ (Pl.Ex.trans hE20 (Pl.Ex.trans fT (Pl.Ex.trans gF (Pl.Ex.trans gY iM))))))))))))))))))) _ (Rat.divInt (-1) 3) (2:Int) 3 (by decide) 1 1 1 (Qn.mk amd ame ahm ahn) (by decide) (by omega) (-2) 94 (by omega) (by omega) (by decide) (by decide)) ?_
 rintro e w26 ⟨v105,rfl,aho,jd⟩
 obtain ⟨abm,ahp,ahq,c109,rfl,amf,R7⟩:=aho
 have aph:=R7.lo
 have api:=R7.hi
 have VN:=Pl.Ex.size jd
 refine ⟨_,rfl,trivial,?_⟩
 refine Pl.aG trivial rfl ?_
 refine Pl.aU (z:=.agg #[.bool false,.slice none 0 0,.int .i64 0]) (by kernel_rfl) rfl rfl rfl rfl (fun Y hY=>trivial) ?_
 intro amg w27 kR ajs Gq
 have amh:=Pl.Cb.lt Gq
 have Z7:=Pl.Ex.size kR
 replace Gq:Pl.Cb w27 amg 26 [.bool false,.slice none 0 0,.int .i64 0]:=Gq
 refine Pl.bg (new:=[.bool (decide (abm<0)),.slice ahq (limbs (Int.natAbs abm)).length c109,.int .i64 ahp]) Gq (by kernel_rfl) rfl (by simp [Value.oneCell']) rfl rfl rfl rfl rfl rfl (fun Y hY=>trivial) ?_
 intro w28 ahr X8
 have jX:=Pl.Ex.xs kR ahr (by omega)
 have Z8:=Pl.Xs.size ahr
 refine Pl.aG trivial rfl ?_
 refine Pl.af ?_
 repeat refine Pl.ay ?_
 refine Pl.aB (by kernel_rfl) ?_
 refine Pl.ah rfl rfl rfl rfl rfl (fun u X=>Pl.enters Tryz.func57 (by kernel_rfl) rfl u X) ?_
 refine Calls.mono (xk _ 1 3 (by decide) (by decide) (by decide)) ?_
 rintro e w29 ⟨agu,rfl,hv113,kv⟩
 obtain ⟨agv,agw,agx,c117,rfl,WR,u119,O8,O9⟩:=hv113
 have Z9:=Pl.Ex.size kv
 refine ⟨_,rfl,trivial,?_⟩
 refine Pl.ah rfl rfl rfl rfl rfl (fun u X=>Pl.enters Tryz.func39 (by kernel_rfl) rfl u X) ?_
 refine Calls.mono (O6 _ _ (Rat.divInt 1 3) (2:Int) 5 _ _ (Qn.mk WR u119 O8 O9) (by decide)) ?_
 rintro e w30 ⟨rfl,kY⟩
 have aaa:=Pl.Ex.size kY
 refine ⟨_,rfl,trivial,?_⟩
 refine Pl.aG trivial rfl ?_
 refine Pl.aU (z:=.agg #[.bool false,.slice none 0 0,.int .i64 0]) (by kernel_rfl) rfl rfl rfl rfl (fun Y hY=>trivial) ?_
 intro ami w31 pK ajt Gs
 have amj:=Pl.Cb.lt Gs
 have aab:=Pl.Ex.size pK
 replace Gs:Pl.Cb w31 ami 26 [.bool false,.slice none 0 0,.int .i64 0]:=Gs
 refine Pl.bg (new:=[.bool false,.slice none 0 0,.int .i64 0]) Gs (by kernel_rfl) rfl (by simp [Value.oneCell']) rfl rfl rfl rfl rfl rfl (fun Y hY=>trivial) ?_
 intro w32 ahs aht
 have ng:=Pl.Ex.xs pK ahs (by omega)
 have aac:=Pl.Xs.size ahs
 refine Pl.aG trivial rfl ?_
 refine Pl.af ?_
 repeat refine Pl.ay ?_
 refine Pl.aB (by kernel_rfl) ?_
 refine Pl.ah rfl rfl rfl rfl rfl (fun u X=>Pl.enters Tryz.func58 (by kernel_rfl) rfl u X) ?_
 refine Calls.mono (kM _ 7 (-3) (by decide) (by decide)) ?_
 rintro e w33 ⟨atp,c124,rfl,amk,oI⟩
 have X9:Dd 7 (-3) (Dy.dv 7 (-3)) 1 (-3) (-3):=⟨by unfold Dy.Can;decide,rfl,(Sz.lit (K:=1) (by decide) (by decide):Sz 7 1),Int.le_refl _,Int.le_refl _⟩
 have adv:=Pl.Ex.size oI
 refine ⟨_,rfl,trivial,?_⟩
 refine Pl.ah rfl rfl rfl rfl rfl (fun u X=>Pl.enters Tryz.func41 (by kernel_rfl) rfl u X) ?_
 refine Calls.mono (wY _ (hg.ext (Pl.Ex.trans hE1 (Pl.Ex.trans hE2 (Pl.Ex.trans aR (Pl.Ex.trans aP (Pl.Ex.trans aM (Pl.Ex.trans bu (Pl.Ex.trans dh (Pl.Ex.trans bf (Pl.Ex.trans bY (Pl.Ex.trans bM (Pl.Ex.trans ed (Pl.Ex.trans dW (Pl.Ex.trans eu (Pl.Ex.trans dZ (Pl.Ex.trans hE20 (Pl.Ex.trans fT (Pl.Ex.trans gF (Pl.Ex.trans gY (Pl.Ex.trans iM (Pl.Ex.trans jd (Pl.Ex.trans jX (Pl.Ex.trans kv (Pl.Ex.trans kY (Pl.Ex.trans ng oI))))))))))))))))))))))))) _ (Dy.dv 7 (-3)) (1:Int) 0 (by decide) 1 1 _ _ (Dn.mk amk X9.can X9.val X9.sz X9.lo X9.hi) (by decide) (by omega) (by decide) (by decide) (by omega) (-3) 63 (by omega) (by omega) (by decide) (by decide) (by decide) (by decide)) ?_
 rintro e w34 ⟨v127,rfl,ahu,qg⟩
 obtain ⟨abn,e129,ahv,c131,rfl,aml,R8⟩:=ahu
 have apj:=R8.lo
 have apk:=R8.hi
 have adw:=Pl.Ex.size qg
 refine ⟨_,rfl,trivial,?_⟩
 refine Pl.aG trivial rfl ?_
 refine Pl.aU (z:=.agg #[.bool false,.slice none 0 0,.int .i64 0]) (by kernel_rfl) rfl rfl rfl rfl (fun Y hY=>trivial) ?_
 intro amm w35 xu aju Gu
 have amn:=Pl.Cb.lt Gu
 have adx:=Pl.Ex.size xu
 replace Gu:Pl.Cb w35 amm 26 [.bool false,.slice none 0 0,.int .i64 0]:=Gu
 refine Pl.bg (new:=[.bool (decide (abn<0)),.slice ahv (limbs (Int.natAbs abn)).length c131,.int .i64 e129]) Gu (by kernel_rfl) rfl (by simp [Value.oneCell']) rfl rfl rfl rfl rfl rfl (fun Y hY=>trivial) ?_
 intro w36 ahw Ya
 have tH:=Pl.Ex.xs xu ahw (by omega)
 have agp:=Pl.Xs.size ahw
 refine Pl.aG trivial rfl ?_
 refine Pl.af ?_
 repeat refine Pl.ay ?_
 refine Pl.aB (by kernel_rfl) ?_
 refine Pl.ah rfl rfl rfl rfl rfl (fun u X=>Pl.enters Tryz.func58 (by kernel_rfl) rfl u X) ?_
 refine Calls.mono (kM _ 7 (-3) (by decide) (by decide)) ?_
 rintro e w37 ⟨atq,atr,rfl,u138,tJ⟩
 have Yb:Dd 7 (-3) (Dy.dv 7 (-3)) 1 (-3) (-3):=⟨by unfold Dy.Can;decide,rfl,(Sz.lit (K:=1) (by decide) (by decide):Sz 7 1),Int.le_refl _,Int.le_refl _⟩
 have ags:=Pl.Ex.size tJ
 refine ⟨_,rfl,trivial,?_⟩
 refine Pl.ah rfl rfl rfl rfl rfl (fun u X=>Pl.enters Tryz.func41 (by kernel_rfl) rfl u X) ?_
 refine Calls.mono (KJ _ _ (Dy.dv 7 (-3)) (1:Int) (-1) _ _ _ (Dn.mk u138 Yb.can Yb.val Yb.sz Yb.lo Yb.hi) (by decide)) ?_
 rintro e w38 ⟨rfl,uI⟩
 have agt:=Pl.Ex.size uI
 refine ⟨_,rfl,trivial,?_⟩
 refine Pl.aG trivial rfl ?_
 refine Pl.aU (z:=.agg #[.bool false,.slice none 0 0,.int .i64 0]) (by kernel_rfl) rfl rfl rfl rfl (fun Y hY=>trivial) ?_
 intro amo w39 Jo ajv Gv
 have amq:=Pl.Cb.lt Gv
 have agy:=Pl.Ex.size Jo
 replace Gv:Pl.Cb w39 amo 26 [.bool false,.slice none 0 0,.int .i64 0]:=Gv
 refine Pl.bg (new:=[.bool false,.slice none 0 0,.int .i64 0]) Gv (by kernel_rfl) rfl (by simp [Value.oneCell']) rfl rfl rfl rfl rfl rfl (fun Y hY=>trivial) ?_
 intro w40 ahx ahy
 have uT:=Pl.Ex.xs Jo ahx (by omega)
 have agA:=Pl.Xs.size ahx
 refine Pl.aG trivial rfl ?_
 refine Pl.af ?_
 repeat refine Pl.ay ?_
 refine Pl.fJ (S:=fun X=>Pl.Ex w40 X) [(false,0,0),(false,1,1),(false,2,3),(false,3,7),(true,4,15),(true,7,31),(false,5,159),(false,6,191),(false,8,255),(true,9,511),(true,10,1023),(false,11,2047),(false,12,4095),(true,13,8191),(true,14,16383),(false,15,32767),(false,16,65535),(true,17,131071),(true,18,262143),(true,19,524287),(false,20,1048575),(false,21,2097151),(true,22,4194303),(true,23,8388607),(true,24,16777215),(false,25,33554431),(false,26,67108863),(true,27,134217727),(true,28,268435455),(true,29,536870911),(true,30,1073741823),(false,31,2147483647),(false,32,4294967295),(true,33,8589934591),(true,34,17179869183),(true,35,34359738367),(true,36,68719476735),(true,37,137438953471),(true,38,274877906943),(true,39,549755813887),(false,40,1099511627775),(false,41,2199023255551),(true,42,4398046511103),(true,43,8796093022207),(true,44,17592186044415),(false,45,35184372088831),(false,46,70368744177663),(true,47,140737488355327),(true,48,281474976710655),(true,49,562949953421311),(false,50,1125899906842623),(false,51,2251799813685247),(true,52,4503599627370495),(true,53,9007199254740991),(true,54,18014398509481983),(false,55,36028797018963967),(false,56,72057594037927935),(true,57,144115188075855871),(true,58,288230376151711743),(true,59,576460752303423487),(false,60,1152921504606846975),(false,61,2305843009213693951),(true,62,4611686018427387903),(true,63,9223372036854775807),(true,64,18446744073709551615),(false,65,36893488147419103231),(false,66,73786976294838206463),(true,67,147573952589676412927),(true,68,295147905179352825855),(true,69,590295810358705651711),(true,70,1180591620717411303423),(true,71,2361183241434822606847),(true,72,4722366482869645213695),(true,73,9444732965739290427391),(false,74,18889465931478580854783),(false,75,37778931862957161709567),(true,76,75557863725914323419135),(true,77,151115727451828646838271),(true,78,302231454903657293676543),(true,79,604462909807314587353087),(true,80,1208925819614629174706175),(true,81,2417851639229258349412351),(true,82,4835703278458516698824703),(true,83,9671406556917033397649407),(true,84,19342813113834066795298815),(true,85,38685626227668133590597631),(false,86,77371252455336267181195263),(false,87,154742504910672534362390527),(false,88,309485009821345068724781055),(false,89,618970019642690137449562111),(true,90,1237940039285380274899124223),(true,91,2475880078570760549798248447),(false,92,4951760157141521099596496895),(false,93,9903520314283042199192993791),(false,94,19807040628566084398385987583),(false,95,39614081257132168796771975167),(false,96,79228162514264337593543950335),(true,97,158456325028528675187087900671),(true,98,316912650057057350374175801343),(false,99,633825300114114700748351602687),(false,100,1267650600228229401496703205375),(false,101,2535301200456458802993406410751),(false,102,5070602400912917605986812821503),(false,103,10141204801825835211973625643007),(true,104,20282409603651670423947251286015),(true,105,40564819207303340847894502572031),(false,106,81129638414606681695789005144063),(false,107,162259276829213363391578010288127),(false,108,324518553658426726783156020576255),(true,109,649037107316853453566312041152511),(true,110,1298074214633706907132624082305023),(true,111,2596148429267413814265248164610047),(false,112,5192296858534827628530496329220095),(false,113,10384593717069655257060992658440191),(false,114,20769187434139310514121985316880383),(false,115,41538374868278621028243970633760767),(true,116,83076749736557242056487941267521535),(true,117,166153499473114484112975882535043071),(false,118,332306998946228968225951765070086143),(false,119,664613997892457936451903530140172287),(true,120,1329227995784915872903807060280344575),(true,121,2658455991569831745807614120560689151),(true,122,5316911983139663491615228241121378303)] fo Pl.az (by kernel_rfl) (Pl.Ex.trans (Pl.Ex.refl _) (Pl.Ex.drew _)) ?_
 have zD:=Pl.Ex.drew w40
 generalize w40.drew=w41 at *
 have agB:=Pl.Ex.size zD
 intro Ru
 refine Pl.ah rfl rfl rfl rfl rfl (fun u X=>Pl.enters Tryz.func53 (by kernel_rfl) rfl u X) ?_
 refine Calls.mono (Bg _ 12 (by decide) (by decide)) ?_
 rintro e w42 ⟨v141,rfl,ahz,El⟩
 obtain ⟨att,c143,rfl,amr⟩:=ahz
 have atu:=Pl.Ex.size El
 have ahA:=Pl.Ex.trans Ru El
 refine ⟨_,rfl,ahA,?_⟩
 refine Pl.ah rfl rfl rfl rfl rfl (fun u X=>Pl.enters Tryz.func18 (by kernel_rfl) rfl u X) ?_
 refine Calls.mono (lU _ (hg.ext (Pl.Ex.trans hE1 (Pl.Ex.trans hE2 (Pl.Ex.trans aR (Pl.Ex.trans aP (Pl.Ex.trans aM (Pl.Ex.trans bu (Pl.Ex.trans dh (Pl.Ex.trans bf (Pl.Ex.trans bY (Pl.Ex.trans bM (Pl.Ex.trans ed (Pl.Ex.trans dW (Pl.Ex.trans eu (Pl.Ex.trans dZ (Pl.Ex.trans hE20 (Pl.Ex.trans fT (Pl.Ex.trans gF (Pl.Ex.trans gY (Pl.Ex.trans iM (Pl.Ex.trans jd (Pl.Ex.trans jX (Pl.Ex.trans kv (Pl.Ex.trans kY (Pl.Ex.trans ng (Pl.Ex.trans oI (Pl.Ex.trans qg (Pl.Ex.trans tH (Pl.Ex.trans tJ (Pl.Ex.trans uI (Pl.Ex.trans uT (Pl.Ex.trans zD El)))))))))))))))))))))))))))))))) _ 12 (-1) (Zn.of amr) 1 (Sz.lit (K:=1) (by decide) (by decide)) (by decide) (by omega) (-1) 31 (by omega) (by omega) (by decide) (by decide)) ?_
 rintro e w43 ⟨v145,rfl,ahB,EW⟩
 obtain ⟨atv,atw,atx,aty,rfl,ams,R9⟩:=ahB
 have apl:=R9.lo
 have apm:=R9.hi
 have atz:=Pl.Ex.size EW
 have ahC:=Pl.Ex.trans ahA EW
 refine ⟨_,rfl,ahC,?_⟩
 refine Pl.ah rfl rfl rfl rfl rfl (fun u X=>Pl.enters Tryz.func58 (by kernel_rfl) rfl u X) ?_
 refine Calls.mono (kM _ 3 1 (by decide) (by decide)) ?_
 rintro e w44 ⟨atA,c154,rfl,amt,Em⟩
 have Yc:Dd 3 1 (Dy.dv 3 1) 1 1 1:=⟨by unfold Dy.Can;decide,rfl,(Sz.lit (K:=1) (by decide) (by decide):Sz 3 1),Int.le_refl _,Int.le_refl _⟩
 have atB:=Pl.Ex.size Em
 have ahD:=Pl.Ex.trans ahC Em
 refine ⟨_,rfl,ahD,?_⟩
 refine Pl.ah rfl rfl rfl rfl rfl (fun u X=>Pl.enters Tryz.func17 (by kernel_rfl) rfl u X) ?_
 refine Calls.mono (dR _ _ _ (Dy.dv 12 (-1)) (Dy.dv 3 1) _ _ _ _ _ _ (Dn.mk (Un.below ams Em) R9.can R9.val R9.sz R9.lo R9.hi) (Dn.mk amt Yc.can Yc.val Yc.sz Yc.lo Yc.hi) (by decide) (by decide)) ?_
 rintro e w45 ⟨rfl,EX⟩
 rw [decide_eq_true (show (Dy.dv 12 (-1))=(Dy.dv 3 1) from (by decide +kernel))]
 have atC:=Pl.Ex.size EX
 have abo:=Pl.Ex.trans ahD EX
 refine ⟨_,rfl,abo,?_⟩
 refine Pl.aG abo rfl ?_
 refine Pl.bC (.agg #[.bool false,.slice none 0 0,.int .i64 0]) abo rfl rfl rfl rfl (fun X=>by kernel_rfl) ?_
 refine Pl.ah rfl rfl rfl rfl rfl (fun u X=>Pl.enters Tryz.func53 (by kernel_rfl) rfl u X) ?_
 refine Calls.mono (Bg _ 0 (by decide) (by decide)) ?_
 rintro e w46 ⟨v157,rfl,hv157,EY⟩
 obtain ⟨atD,c159,rfl,amu⟩:=hv157
 have atE:=Pl.Ex.size EY
 have ahE:=Pl.Ex.trans abo EY
 refine ⟨_,rfl,ahE,?_⟩
 refine Pl.ah rfl rfl rfl rfl rfl (fun u X=>Pl.enters Tryz.func18 (by kernel_rfl) rfl u X) ?_
 refine Calls.mono (lU _ (hg.ext (Pl.Ex.trans hE1 (Pl.Ex.trans hE2 (Pl.Ex.trans aR (Pl.Ex.trans aP (Pl.Ex.trans aM (Pl.Ex.trans bu (Pl.Ex.trans dh (Pl.Ex.trans bf (Pl.Ex.trans bY (Pl.Ex.trans bM (Pl.Ex.trans ed (Pl.Ex.trans dW (Pl.Ex.trans eu (Pl.Ex.trans dZ (Pl.Ex.trans hE20 (Pl.Ex.trans fT (Pl.Ex.trans gF (Pl.Ex.trans gY (Pl.Ex.trans iM (Pl.Ex.trans jd (Pl.Ex.trans jX (Pl.Ex.trans kv (Pl.Ex.trans kY (Pl.Ex.trans ng (Pl.Ex.trans oI (Pl.Ex.trans qg (Pl.Ex.trans tH (Pl.Ex.trans tJ (Pl.Ex.trans uI (Pl.Ex.trans uT (Pl.Ex.trans zD (Pl.Ex.trans El (Pl.Ex.trans EW (Pl.Ex.trans Em (Pl.Ex.trans EX EY)))))))))))))))))))))))))))))))))))) _ 0 7 (Zn.of amu) 1 (Sz.lit (K:=1) (by decide) (by decide)) (by decide) (by omega) (0) 39 (by omega) (by omega) (by decide) (by decide)) ?_
 rintro e w47 ⟨atF,rfl,ahF,Gw⟩
 obtain ⟨atG,atH,atI,atJ,rfl,amv,Sa⟩:=ahF
 have apn:=Sa.lo
 have apo:=Sa.hi
 have atK:=Pl.Ex.size Gw
 have ahG:=Pl.Ex.trans ahE Gw
 refine ⟨_,rfl,ahG,?_⟩
 refine Pl.ah rfl rfl rfl rfl rfl (fun u X=>Pl.enters Tryz.func17 (by kernel_rfl) rfl u X) ?_
 refine Calls.mono (dR _ _ _ (Dy.dv 0 7) (0:Rat) _ _ _ _ _ _ (Dn.mk amv Sa.can Sa.val Sa.sz Sa.lo Sa.hi) (Dn.zero _ 0 (Int.le_refl 0) (Int.le_refl 0)) (by decide) (by decide)) ?_
 rintro e w48 ⟨rfl,Gx⟩
 rw [decide_eq_true (show (Dy.dv 0 7)=(0:Rat) from (by decide +kernel))]
 have atL:=Pl.Ex.size Gx
 have aeH:=Pl.Ex.trans ahG Gx
 refine ⟨_,rfl,aeH,?_⟩
 refine Pl.aG aeH rfl ?_
 refine Pl.ah rfl rfl rfl rfl rfl (fun u X=>Pl.enters Tryz.func58 (by kernel_rfl) rfl u X) ?_
 refine Calls.mono (kM _ 3 1 (by decide) (by decide)) ?_
 rintro e w49 ⟨atM,atN,rfl,amw,Gy⟩
 have amx:Dd 3 1 (Dy.dv 3 1) 1 1 1:=⟨by unfold Dy.Can;decide,rfl,(Sz.lit (K:=1) (by decide) (by decide):Sz 3 1),Int.le_refl _,Int.le_refl _⟩
 have atO:=Pl.Ex.size Gy
 have ahH:=Pl.Ex.trans aeH Gy
 refine ⟨_,rfl,ahH,?_⟩
 refine Pl.ah rfl rfl rfl rfl rfl (fun u X=>Pl.enters Tryz.func13 (by kernel_rfl) rfl u X) ?_
 refine Calls.mono (rq _ _ _ 3 1 amw (Sz.le amx.sz (by decide))) ?_
 rintro e w50 ⟨rfl,Gz⟩
 rw [decide_eq_true (by decide)]
 have atP:=Pl.Ex.size Gz
 have aeI:=Pl.Ex.trans ahH Gz
 refine ⟨_,rfl,aeI,?_⟩
 refine Pl.aG aeI rfl ?_
 refine Pl.ah rfl rfl rfl rfl rfl (fun u X=>Pl.enters Tryz.func58 (by kernel_rfl) rfl u X) ?_
 refine Calls.mono (kM _ 2 0 (by decide) (by decide)) ?_
 rintro e w51 ⟨atQ,c175,rfl,amy,GG⟩
 have atS:=Pl.Ex.size GG
 have ahI:=Pl.Ex.trans aeI GG
 refine ⟨_,rfl,ahI,?_⟩
 refine Pl.ah rfl rfl rfl rfl rfl (fun u X=>Pl.enters Tryz.func13 (by kernel_rfl) rfl u X) ?_
 refine Calls.mono (rq _ _ _ 2 0 amy (Sz.le (Sz.lit (K:=1) (by decide) (by decide):Sz 2 1) (by decide))) ?_
 rintro e w52 ⟨rfl,GH⟩
 rw [decide_eq_false (by decide)]
 have atT:=Pl.Ex.size GH
 have abp:=Pl.Ex.trans ahI GH
 refine ⟨_,rfl,abp,?_⟩
 refine Pl.mK (v:=.bool true) abp rfl rfl rfl rfl rfl (fun X=>rfl) ?_
 refine Pl.aG abp rfl ?_
 refine Pl.ah rfl rfl rfl rfl rfl (fun u X=>Pl.enters Tryz.func58 (by kernel_rfl) rfl u X) ?_
 refine Calls.mono (kM _ 0 1 (by decide) (by decide)) ?_
 rintro e w53 ⟨atU,atV,rfl,amz,GI⟩
 have atW:=Pl.Ex.size GI
 have ahJ:=Pl.Ex.trans abp GI
 refine ⟨_,rfl,ahJ,?_⟩
 refine Pl.ah rfl rfl rfl rfl rfl (fun u X=>Pl.enters Tryz.func13 (by kernel_rfl) rfl u X) ?_
 refine Calls.mono (rq _ _ _ 0 1 amz (Sz.le (Sz.lit (K:=1) (by decide) (by decide):Sz 0 1) (by decide))) ?_
 rintro e w54 ⟨rfl,GJ⟩
 rw [decide_eq_false (by decide)]
 have atX:=Pl.Ex.size GJ
 have abq:=Pl.Ex.trans ahJ GJ
 refine ⟨_,rfl,abq,?_⟩
 refine Pl.mK (v:=.bool true) abq rfl rfl rfl rfl rfl (fun X=>rfl) ?_
 refine Pl.aG abq rfl ?_
 refine Pl.ah rfl rfl rfl rfl rfl (fun u X=>Pl.enters Tryz.func58 (by kernel_rfl) rfl u X) ?_
 refine Calls.mono (kM _ 1 100001 (by decide) (by decide)) ?_
 rintro e w55 ⟨atY,atZ,rfl,amA,GK⟩
 have amB:Dd 1 100001 (Dy.dv 1 100001) 1 100001 100001:=⟨by unfold Dy.Can;decide,rfl,(Sz.lit (K:=1) (by decide) (by decide):Sz 1 1),Int.le_refl _,Int.le_refl _⟩
 have at0:=Pl.Ex.size GK
 have ahK:=Pl.Ex.trans abq GK
 refine ⟨_,rfl,ahK,?_⟩
 refine Pl.ah rfl rfl rfl rfl rfl (fun u X=>Pl.enters Tryz.func13 (by kernel_rfl) rfl u X) ?_
 refine Calls.mono (rq _ _ _ 1 100001 amA (Sz.le amB.sz (by decide))) ?_
 rintro e w56 ⟨rfl,GL⟩
 rw [decide_eq_false (by decide)]
 have at1:=Pl.Ex.size GL
 have Yd:=Pl.Ex.trans ahK GL
 refine ⟨_,rfl,Yd,?_⟩
 refine Pl.mK (v:=.bool true) Yd rfl rfl rfl rfl rfl (fun X=>rfl) ?_
 refine Pl.aG Yd rfl ?_
 refine Pl.bT (part:=[.bool (decide (m10<0)),.slice CK (limbs (Int.natAbs m10)).length c13,.int .i64 e11]) (fun X hX=>Pl.Cb.ex (Pl.Cb.ex JG (Pl.Ex.trans aP (Pl.Ex.trans aM (Pl.Ex.trans bu (Pl.Ex.trans dh (Pl.Ex.trans bf (Pl.Ex.trans bY (Pl.Ex.trans bM (Pl.Ex.trans ed (Pl.Ex.trans dW (Pl.Ex.trans eu (Pl.Ex.trans dZ (Pl.Ex.trans hE20 (Pl.Ex.trans fT (Pl.Ex.trans gF (Pl.Ex.trans gY (Pl.Ex.trans iM (Pl.Ex.trans jd (Pl.Ex.trans jX (Pl.Ex.trans kv (Pl.Ex.trans kY (Pl.Ex.trans ng (Pl.Ex.trans oI (Pl.Ex.trans qg (Pl.Ex.trans tH (Pl.Ex.trans tJ (Pl.Ex.trans uI uT))))))))))))))))))))))))))) hX) rfl Tryz.underlying26 rfl (by kernel_rfl) Yd rfl rfl rfl rfl rfl ?_
 refine Pl.ah rfl rfl rfl rfl rfl (fun u X=>Pl.enters Tryz.func58 (by kernel_rfl) rfl u X) ?_
 refine Calls.mono (kM _ 1 (-2) (by decide) (by decide)) ?_
 rintro e w57 ⟨at5,at6,rfl,amC,GM⟩
 have Ye:Dd 1 (-2) (Dy.dv 1 (-2)) 1 (-2) (-2):=⟨by unfold Dy.Can;decide,rfl,(Sz.lit (K:=1) (by decide) (by decide):Sz 1 1),Int.le_refl _,Int.le_refl _⟩
 have at7:=Pl.Ex.size GM
 have ahL:=Pl.Ex.trans Yd GM
 refine ⟨_,rfl,ahL,?_⟩
 refine Pl.ah rfl rfl rfl rfl rfl (fun u X=>Pl.enters Tryz.func17 (by kernel_rfl) rfl u X) ?_
 refine Calls.mono (dR _ _ _ (Dy.cut 0 (Rat.divInt 1 3) (2:Int)) (Dy.dv 1 (-2)) _ _ _ _ _ _ (Dn.mk (Un.below JF (Pl.Ex.trans aR (Pl.Ex.trans aP (Pl.Ex.trans aM (Pl.Ex.trans bu (Pl.Ex.trans dh (Pl.Ex.trans bf (Pl.Ex.trans bY (Pl.Ex.trans bM (Pl.Ex.trans ed (Pl.Ex.trans dW (Pl.Ex.trans eu (Pl.Ex.trans dZ (Pl.Ex.trans hE20 (Pl.Ex.trans fT (Pl.Ex.trans gF (Pl.Ex.trans gY (Pl.Ex.trans iM (Pl.Ex.trans jd (Pl.Ex.trans jX (Pl.Ex.trans kv (Pl.Ex.trans kY (Pl.Ex.trans ng (Pl.Ex.trans oI (Pl.Ex.trans qg (Pl.Ex.trans tH (Pl.Ex.trans tJ (Pl.Ex.trans uI (Pl.Ex.trans uT (Pl.Ex.trans zD (Pl.Ex.trans El (Pl.Ex.trans EW (Pl.Ex.trans Em (Pl.Ex.trans EX (Pl.Ex.trans EY (Pl.Ex.trans Gw (Pl.Ex.trans Gx (Pl.Ex.trans Gy (Pl.Ex.trans Gz (Pl.Ex.trans GG (Pl.Ex.trans GH (Pl.Ex.trans GI (Pl.Ex.trans GJ (Pl.Ex.trans GK (Pl.Ex.trans GL GM))))))))))))))))))))))))))))))))))))))))))))) d15.can d15.val d15.sz d15.lo d15.hi) (Dn.mk amC Ye.can Ye.val Ye.sz Ye.lo Ye.hi) (by decide) (by decide)) ?_
 rintro e w58 ⟨rfl,Ik⟩
 rw [decide_eq_true (show (Dy.cut 0 (Rat.divInt 1 3) (2:Int))=(Dy.dv 1 (-2)) from (by decide +kernel))]
 have aua:=Pl.Ex.size Ik
 have UM:=Pl.Ex.trans ahL Ik
 refine ⟨_,rfl,UM,?_⟩
 refine Pl.aG UM rfl ?_
 refine Pl.dO (v:=.bool true) (fun X=>Pl.gM (Pl.e_t (by omega)) X) UM rfl rfl rfl rfl rfl rfl ?_
 refine Pl.aG UM rfl ?_
 refine Pl.bT (part:=[.bool (decide (m26<0)),.slice A28 (limbs (Int.natAbs m26)).length c29,.int .i64 e27]) (fun X hX=>Pl.Cb.ex (Pl.Cb.ex abg (Pl.Ex.trans dh (Pl.Ex.trans bf (Pl.Ex.trans bY (Pl.Ex.trans bM (Pl.Ex.trans ed (Pl.Ex.trans dW (Pl.Ex.trans eu (Pl.Ex.trans dZ (Pl.Ex.trans hE20 (Pl.Ex.trans fT (Pl.Ex.trans gF (Pl.Ex.trans gY (Pl.Ex.trans iM (Pl.Ex.trans jd (Pl.Ex.trans jX (Pl.Ex.trans kv (Pl.Ex.trans kY (Pl.Ex.trans ng (Pl.Ex.trans oI (Pl.Ex.trans qg (Pl.Ex.trans tH (Pl.Ex.trans tJ (Pl.Ex.trans uI uT)))))))))))))))))))))))) hX) rfl Tryz.underlying26 rfl (by kernel_rfl) UM rfl rfl rfl rfl rfl ?_
 refine Pl.ah rfl rfl rfl rfl rfl (fun u X=>Pl.enters Tryz.func58 (by kernel_rfl) rfl u X) ?_
 refine Calls.mono (kM _ 1 (-1) (by decide) (by decide)) ?_
 rintro e w59 ⟨aub,auc,rfl,u196,Il⟩
 have Yf:Dd 1 (-1) (Dy.dv 1 (-1)) 1 (-1) (-1):=⟨by unfold Dy.Can;decide,rfl,(Sz.lit (K:=1) (by decide) (by decide):Sz 1 1),Int.le_refl _,Int.le_refl _⟩
 have aud:=Pl.Ex.size Il
 have ahM:=Pl.Ex.trans UM Il
 refine ⟨_,rfl,ahM,?_⟩
 refine Pl.ah rfl rfl rfl rfl rfl (fun u X=>Pl.enters Tryz.func17 (by kernel_rfl) rfl u X) ?_
 refine Calls.mono (dR _ _ _ (Dy.cut 1 (Rat.divInt 1 3) (2:Int)) (Dy.dv 1 (-1)) _ _ _ _ _ _ (Dn.mk (Un.below u30 (Pl.Ex.trans bu (Pl.Ex.trans dh (Pl.Ex.trans bf (Pl.Ex.trans bY (Pl.Ex.trans bM (Pl.Ex.trans ed (Pl.Ex.trans dW (Pl.Ex.trans eu (Pl.Ex.trans dZ (Pl.Ex.trans hE20 (Pl.Ex.trans fT (Pl.Ex.trans gF (Pl.Ex.trans gY (Pl.Ex.trans iM (Pl.Ex.trans jd (Pl.Ex.trans jX (Pl.Ex.trans kv (Pl.Ex.trans kY (Pl.Ex.trans ng (Pl.Ex.trans oI (Pl.Ex.trans qg (Pl.Ex.trans tH (Pl.Ex.trans tJ (Pl.Ex.trans uI (Pl.Ex.trans uT (Pl.Ex.trans zD (Pl.Ex.trans El (Pl.Ex.trans EW (Pl.Ex.trans Em (Pl.Ex.trans EX (Pl.Ex.trans EY (Pl.Ex.trans Gw (Pl.Ex.trans Gx (Pl.Ex.trans Gy (Pl.Ex.trans Gz (Pl.Ex.trans GG (Pl.Ex.trans GH (Pl.Ex.trans GI (Pl.Ex.trans GJ (Pl.Ex.trans GK (Pl.Ex.trans GL (Pl.Ex.trans GM (Pl.Ex.trans Ik Il)))))))))))))))))))))))))))))))))))))))))))) EL.can EL.val EL.sz EL.lo EL.hi) (Dn.mk u196 Yf.can Yf.val Yf.sz Yf.lo Yf.hi) (by decide) (by decide)) ?_
 rintro e w60 ⟨rfl,Js⟩
 rw [decide_eq_true (show (Dy.cut 1 (Rat.divInt 1 3) (2:Int))=(Dy.dv 1 (-1)) from (by decide +kernel))]
 have aue:=Pl.Ex.size Js
 have abr:=Pl.Ex.trans ahM Js
 refine ⟨_,rfl,abr,?_⟩
 refine Pl.aG abr rfl ?_
 refine Pl.bT (part:=[.bool (decide (m42<0)),.slice A44 (limbs (Int.natAbs m42)).length c45,.int .i64 e43]) (fun X hX=>Pl.Cb.ex (Pl.Cb.ex abh (Pl.Ex.trans bM (Pl.Ex.trans ed (Pl.Ex.trans dW (Pl.Ex.trans eu (Pl.Ex.trans dZ (Pl.Ex.trans hE20 (Pl.Ex.trans fT (Pl.Ex.trans gF (Pl.Ex.trans gY (Pl.Ex.trans iM (Pl.Ex.trans jd (Pl.Ex.trans jX (Pl.Ex.trans kv (Pl.Ex.trans kY (Pl.Ex.trans ng (Pl.Ex.trans oI (Pl.Ex.trans qg (Pl.Ex.trans tH (Pl.Ex.trans tJ (Pl.Ex.trans uI uT))))))))))))))))))))) hX) rfl Tryz.underlying26 rfl (by kernel_rfl) abr rfl rfl rfl rfl rfl ?_
 refine Pl.ah rfl rfl rfl rfl rfl (fun u X=>Pl.enters Tryz.func58 (by kernel_rfl) rfl u X) ?_
 refine Calls.mono (kM _ 1 (-2) (by decide) (by decide)) ?_
 rintro e w61 ⟨auf,aug,rfl,u201,Jt⟩
 have Yg:Dd 1 (-2) (Dy.dv 1 (-2)) 1 (-2) (-2):=⟨by unfold Dy.Can;decide,rfl,(Sz.lit (K:=1) (by decide) (by decide):Sz 1 1),Int.le_refl _,Int.le_refl _⟩
 have auh:=Pl.Ex.size Jt
 have ahN:=Pl.Ex.trans abr Jt
 refine ⟨_,rfl,ahN,?_⟩
 refine Pl.ah rfl rfl rfl rfl rfl (fun u X=>Pl.enters Tryz.func17 (by kernel_rfl) rfl u X) ?_
 refine Calls.mono (dR _ _ _ (Dy.cut 4 (Rat.divInt 1 3) (2:Int)) (Dy.dv 1 (-2)) _ _ _ _ _ _ (Dn.mk (Un.below u46 (Pl.Ex.trans bY (Pl.Ex.trans bM (Pl.Ex.trans ed (Pl.Ex.trans dW (Pl.Ex.trans eu (Pl.Ex.trans dZ (Pl.Ex.trans hE20 (Pl.Ex.trans fT (Pl.Ex.trans gF (Pl.Ex.trans gY (Pl.Ex.trans iM (Pl.Ex.trans jd (Pl.Ex.trans jX (Pl.Ex.trans kv (Pl.Ex.trans kY (Pl.Ex.trans ng (Pl.Ex.trans oI (Pl.Ex.trans qg (Pl.Ex.trans tH (Pl.Ex.trans tJ (Pl.Ex.trans uI (Pl.Ex.trans uT (Pl.Ex.trans zD (Pl.Ex.trans El (Pl.Ex.trans EW (Pl.Ex.trans Em (Pl.Ex.trans EX (Pl.Ex.trans EY (Pl.Ex.trans Gw (Pl.Ex.trans Gx (Pl.Ex.trans Gy (Pl.Ex.trans Gz (Pl.Ex.trans GG (Pl.Ex.trans GH (Pl.Ex.trans GI (Pl.Ex.trans GJ (Pl.Ex.trans GK (Pl.Ex.trans GL (Pl.Ex.trans GM (Pl.Ex.trans Ik (Pl.Ex.trans Il (Pl.Ex.trans Js Jt))))))))))))))))))))))))))))))))))))))))))) d47.can d47.val d47.sz d47.lo d47.hi) (Dn.mk u201 Yg.can Yg.val Yg.sz Yg.lo Yg.hi) (by decide) (by decide)) ?_
 rintro e w62 ⟨rfl,K9⟩
 rw [decide_eq_true (show (Dy.cut 4 (Rat.divInt 1 3) (2:Int))=(Dy.dv 1 (-2)) from (by decide +kernel))]
 have aui:=Pl.Ex.size K9
 have abt:=Pl.Ex.trans ahN K9
 refine ⟨_,rfl,abt,?_⟩
 refine Pl.aG abt rfl ?_
 refine Pl.bT (part:=[.bool (decide (m58<0)),.slice A60 (limbs (Int.natAbs m58)).length c61,.int .i64 e59]) (fun X hX=>Pl.Cb.ex (Pl.Cb.ex abj (Pl.Ex.trans eu (Pl.Ex.trans dZ (Pl.Ex.trans hE20 (Pl.Ex.trans fT (Pl.Ex.trans gF (Pl.Ex.trans gY (Pl.Ex.trans iM (Pl.Ex.trans jd (Pl.Ex.trans jX (Pl.Ex.trans kv (Pl.Ex.trans kY (Pl.Ex.trans ng (Pl.Ex.trans oI (Pl.Ex.trans qg (Pl.Ex.trans tH (Pl.Ex.trans tJ (Pl.Ex.trans uI uT)))))))))))))))))) hX) rfl Tryz.underlying26 rfl (by kernel_rfl) abt rfl rfl rfl rfl rfl ?_
 refine Pl.ah rfl rfl rfl rfl rfl (fun u X=>Pl.enters Tryz.func58 (by kernel_rfl) rfl u X) ?_
 refine Calls.mono (kM _ 1 (-1) (by decide) (by decide)) ?_
 rintro e w63 ⟨auj,auk,rfl,u206,Lc⟩
 have Yh:Dd 1 (-1) (Dy.dv 1 (-1)) 1 (-1) (-1):=⟨by unfold Dy.Can;decide,rfl,(Sz.lit (K:=1) (by decide) (by decide):Sz 1 1),Int.le_refl _,Int.le_refl _⟩
 have aul:=Pl.Ex.size Lc
 have ahO:=Pl.Ex.trans abt Lc
 refine ⟨_,rfl,ahO,?_⟩
 refine Pl.ah rfl rfl rfl rfl rfl (fun u X=>Pl.enters Tryz.func17 (by kernel_rfl) rfl u X) ?_
 refine Calls.mono (dR _ _ _ (Dy.cut 4 (Rat.divInt 3 8) (2:Int)) (Dy.dv 1 (-1)) _ _ _ _ _ _ (Dn.mk (Un.below u62 (Pl.Ex.trans dW (Pl.Ex.trans eu (Pl.Ex.trans dZ (Pl.Ex.trans hE20 (Pl.Ex.trans fT (Pl.Ex.trans gF (Pl.Ex.trans gY (Pl.Ex.trans iM (Pl.Ex.trans jd (Pl.Ex.trans jX (Pl.Ex.trans kv (Pl.Ex.trans kY (Pl.Ex.trans ng (Pl.Ex.trans oI (Pl.Ex.trans qg (Pl.Ex.trans tH (Pl.Ex.trans tJ (Pl.Ex.trans uI (Pl.Ex.trans uT (Pl.Ex.trans zD (Pl.Ex.trans El (Pl.Ex.trans EW (Pl.Ex.trans Em (Pl.Ex.trans EX (Pl.Ex.trans EY (Pl.Ex.trans Gw (Pl.Ex.trans Gx (Pl.Ex.trans Gy (Pl.Ex.trans Gz (Pl.Ex.trans GG (Pl.Ex.trans GH (Pl.Ex.trans GI (Pl.Ex.trans GJ (Pl.Ex.trans GK (Pl.Ex.trans GL (Pl.Ex.trans GM (Pl.Ex.trans Ik (Pl.Ex.trans Il (Pl.Ex.trans Js (Pl.Ex.trans Jt (Pl.Ex.trans K9 Lc)))))))))))))))))))))))))))))))))))))))))) KN.can KN.val KN.sz KN.lo KN.hi) (Dn.mk u206 Yh.can Yh.val Yh.sz Yh.lo Yh.hi) (by decide) (by decide)) ?_
 rintro e Jg ⟨rfl,LY⟩
 rw [decide_eq_true (show (Dy.cut 4 (Rat.divInt 3 8) (2:Int))=(Dy.dv 1 (-1)) from (by decide +kernel))]
 have aum:=Pl.Ex.size LY
 have abu:=Pl.Ex.trans ahO LY
 refine ⟨_,rfl,abu,?_⟩
 refine Pl.aG abu rfl ?_
 refine Pl.bT (part:=[.bool (decide (m74<0)),.slice A76 (limbs (Int.natAbs m74)).length c77,.int .i64 e75]) (fun X hX=>Pl.Cb.ex (Pl.Cb.ex abk (Pl.Ex.trans fT (Pl.Ex.trans gF (Pl.Ex.trans gY (Pl.Ex.trans iM (Pl.Ex.trans jd (Pl.Ex.trans jX (Pl.Ex.trans kv (Pl.Ex.trans kY (Pl.Ex.trans ng (Pl.Ex.trans oI (Pl.Ex.trans qg (Pl.Ex.trans tH (Pl.Ex.trans tJ (Pl.Ex.trans uI uT))))))))))))))) hX) rfl Tryz.underlying26 rfl (by kernel_rfl) abu rfl rfl rfl rfl rfl ?_
 refine Pl.ah rfl rfl rfl rfl rfl (fun u X=>Pl.enters Tryz.func58 (by kernel_rfl) rfl u X) ?_
 refine Calls.mono (kM _ 1 (-1) (by decide) (by decide)) ?_
 rintro e w65 ⟨aun,c210,rfl,amD,LZ⟩
 have Yi:Dd 1 (-1) (Dy.dv 1 (-1)) 1 (-1) (-1):=⟨by unfold Dy.Can;decide,rfl,(Sz.lit (K:=1) (by decide) (by decide):Sz 1 1),Int.le_refl _,Int.le_refl _⟩
 have auo:=Pl.Ex.size LZ
 have ahP:=Pl.Ex.trans abu LZ
 refine ⟨_,rfl,ahP,?_⟩
 refine Pl.ah rfl rfl rfl rfl rfl (fun u X=>Pl.enters Tryz.func17 (by kernel_rfl) rfl u X) ?_
 refine Calls.mono (dR _ _ _ (Dy.cut 4 (Rat.divInt 5 8) (2:Int)) (Dy.dv 1 (-1)) _ _ _ _ _ _ (Dn.mk (Un.below u78 (Pl.Ex.trans hE20 (Pl.Ex.trans fT (Pl.Ex.trans gF (Pl.Ex.trans gY (Pl.Ex.trans iM (Pl.Ex.trans jd (Pl.Ex.trans jX (Pl.Ex.trans kv (Pl.Ex.trans kY (Pl.Ex.trans ng (Pl.Ex.trans oI (Pl.Ex.trans qg (Pl.Ex.trans tH (Pl.Ex.trans tJ (Pl.Ex.trans uI (Pl.Ex.trans uT (Pl.Ex.trans zD (Pl.Ex.trans El (Pl.Ex.trans EW (Pl.Ex.trans Em (Pl.Ex.trans EX (Pl.Ex.trans EY (Pl.Ex.trans Gw (Pl.Ex.trans Gx (Pl.Ex.trans Gy (Pl.Ex.trans Gz (Pl.Ex.trans GG (Pl.Ex.trans GH (Pl.Ex.trans GI (Pl.Ex.trans GJ (Pl.Ex.trans GK (Pl.Ex.trans GL (Pl.Ex.trans GM (Pl.Ex.trans Ik (Pl.Ex.trans Il (Pl.Ex.trans Js (Pl.Ex.trans Jt (Pl.Ex.trans K9 (Pl.Ex.trans Lc (Pl.Ex.trans LY LZ))))))))))))))))))))))))))))))))))))))))) d79.can d79.val d79.sz d79.lo d79.hi) (Dn.mk amD Yi.can Yi.val Yi.sz Yi.lo Yi.hi) (by decide) (by decide)) ?_
 rintro e w66 ⟨rfl,NJ⟩
 rw [decide_eq_true (show (Dy.cut 4 (Rat.divInt 5 8) (2:Int))=(Dy.dv 1 (-1)) from (by decide +kernel))]
 have aup:=Pl.Ex.size NJ
 have abv:=Pl.Ex.trans ahP NJ
 refine ⟨_,rfl,abv,?_⟩
 refine Pl.aG abv rfl ?_
 refine Pl.bT (part:=[.bool (decide (m90<0)),.slice A92 (limbs (Int.natAbs m90)).length c93,.int .i64 e91]) (fun X hX=>Pl.Cb.ex (Pl.Cb.ex abl (Pl.Ex.trans iM (Pl.Ex.trans jd (Pl.Ex.trans jX (Pl.Ex.trans kv (Pl.Ex.trans kY (Pl.Ex.trans ng (Pl.Ex.trans oI (Pl.Ex.trans qg (Pl.Ex.trans tH (Pl.Ex.trans tJ (Pl.Ex.trans uI uT)))))))))))) hX) rfl Tryz.underlying26 rfl (by kernel_rfl) abv rfl rfl rfl rfl rfl ?_
 refine Pl.ah rfl rfl rfl rfl rfl (fun u X=>Pl.enters Tryz.func58 (by kernel_rfl) rfl u X) ?_
 refine Calls.mono (kM _ (-1) (-2) (by decide) (by decide)) ?_
 rintro e w67 ⟨auq,aur,rfl,amE,NK⟩
 have Yj:Dd (-1) (-2) (Dy.dv (-1) (-2)) 1 (-2) (-2):=⟨by unfold Dy.Can;decide,rfl,(Sz.lit (K:=1) (by decide) (by decide):Sz (-1) 1),Int.le_refl _,Int.le_refl _⟩
 have aus:=Pl.Ex.size NK
 have ahQ:=Pl.Ex.trans abv NK
 refine ⟨_,rfl,ahQ,?_⟩
 refine Pl.ah rfl rfl rfl rfl rfl (fun u X=>Pl.enters Tryz.func17 (by kernel_rfl) rfl u X) ?_
 refine Calls.mono (dR _ _ _ (Dy.cut 2 (Rat.divInt (-1) 3) (2:Int)) (Dy.dv (-1) (-2)) _ _ _ _ _ _ (Dn.mk (Un.below u94 (Pl.Ex.trans gY (Pl.Ex.trans iM (Pl.Ex.trans jd (Pl.Ex.trans jX (Pl.Ex.trans kv (Pl.Ex.trans kY (Pl.Ex.trans ng (Pl.Ex.trans oI (Pl.Ex.trans qg (Pl.Ex.trans tH (Pl.Ex.trans tJ (Pl.Ex.trans uI (Pl.Ex.trans uT (Pl.Ex.trans zD (Pl.Ex.trans El (Pl.Ex.trans EW (Pl.Ex.trans Em (Pl.Ex.trans EX (Pl.Ex.trans EY (Pl.Ex.trans Gw (Pl.Ex.trans Gx (Pl.Ex.trans Gy (Pl.Ex.trans Gz (Pl.Ex.trans GG (Pl.Ex.trans GH (Pl.Ex.trans GI (Pl.Ex.trans GJ (Pl.Ex.trans GK (Pl.Ex.trans GL (Pl.Ex.trans GM (Pl.Ex.trans Ik (Pl.Ex.trans Il (Pl.Ex.trans Js (Pl.Ex.trans Jt (Pl.Ex.trans K9 (Pl.Ex.trans Lc (Pl.Ex.trans LY (Pl.Ex.trans LZ (Pl.Ex.trans NJ NK)))))))))))))))))))))))))))))))))))))))) d95.can d95.val d95.sz d95.lo d95.hi) (Dn.mk amE Yj.can Yj.val Yj.sz Yj.lo Yj.hi) (by decide) (by decide)) ?_
 rintro e w68 ⟨rfl,PM⟩
 rw [decide_eq_true (show (Dy.cut 2 (Rat.divInt (-1) 3) (2:Int))=(Dy.dv (-1) (-2)) from (by decide +kernel))]
 have aut:=Pl.Ex.size PM
 have abw:=Pl.Ex.trans ahQ PM
 refine ⟨_,rfl,abw,?_⟩
 refine Pl.aG abw rfl ?_
 refine Pl.bT (part:=[.bool (decide (abm<0)),.slice ahq (limbs (Int.natAbs abm)).length c109,.int .i64 ahp]) (fun X hX=>Pl.Cb.ex (Pl.Cb.ex X8 (Pl.Ex.trans kv (Pl.Ex.trans kY (Pl.Ex.trans ng (Pl.Ex.trans oI (Pl.Ex.trans qg (Pl.Ex.trans tH (Pl.Ex.trans tJ (Pl.Ex.trans uI uT))))))))) hX) rfl Tryz.underlying26 rfl (by kernel_rfl) abw rfl rfl rfl rfl rfl ?_
 refine Pl.ah rfl rfl rfl rfl rfl (fun u X=>Pl.enters Tryz.func58 (by kernel_rfl) rfl u X) ?_
 refine Calls.mono (kM _ (-1) (-1) (by decide) (by decide)) ?_
 rintro e w69 ⟨auu,auv,rfl,amF,PN⟩
 have Yk:Dd (-1) (-1) (Dy.dv (-1) (-1)) 1 (-1) (-1):=⟨by unfold Dy.Can;decide,rfl,(Sz.lit (K:=1) (by decide) (by decide):Sz (-1) 1),Int.le_refl _,Int.le_refl _⟩
 have auw:=Pl.Ex.size PN
 have ahR:=Pl.Ex.trans abw PN
 refine ⟨_,rfl,ahR,?_⟩
 refine Pl.ah rfl rfl rfl rfl rfl (fun u X=>Pl.enters Tryz.func17 (by kernel_rfl) rfl u X) ?_
 refine Calls.mono (dR _ _ _ (Dy.cut 3 (Rat.divInt (-1) 3) (2:Int)) (Dy.dv (-1) (-1)) _ _ _ _ _ _ (Dn.mk (Un.below amf (Pl.Ex.trans jX (Pl.Ex.trans kv (Pl.Ex.trans kY (Pl.Ex.trans ng (Pl.Ex.trans oI (Pl.Ex.trans qg (Pl.Ex.trans tH (Pl.Ex.trans tJ (Pl.Ex.trans uI (Pl.Ex.trans uT (Pl.Ex.trans zD (Pl.Ex.trans El (Pl.Ex.trans EW (Pl.Ex.trans Em (Pl.Ex.trans EX (Pl.Ex.trans EY (Pl.Ex.trans Gw (Pl.Ex.trans Gx (Pl.Ex.trans Gy (Pl.Ex.trans Gz (Pl.Ex.trans GG (Pl.Ex.trans GH (Pl.Ex.trans GI (Pl.Ex.trans GJ (Pl.Ex.trans GK (Pl.Ex.trans GL (Pl.Ex.trans GM (Pl.Ex.trans Ik (Pl.Ex.trans Il (Pl.Ex.trans Js (Pl.Ex.trans Jt (Pl.Ex.trans K9 (Pl.Ex.trans Lc (Pl.Ex.trans LY (Pl.Ex.trans LZ (Pl.Ex.trans NJ (Pl.Ex.trans NK (Pl.Ex.trans PM PN))))))))))))))))))))))))))))))))))))))) R7.can R7.val R7.sz R7.lo R7.hi) (Dn.mk amF Yk.can Yk.val Yk.sz Yk.lo Yk.hi) (by decide) (by decide)) ?_
 rintro e w70 ⟨rfl,Sb⟩
 rw [decide_eq_true (show (Dy.cut 3 (Rat.divInt (-1) 3) (2:Int))=(Dy.dv (-1) (-1)) from (by decide +kernel))]
 have auy:=Pl.Ex.size Sb
 have UN:=Pl.Ex.trans ahR Sb
 refine ⟨_,rfl,UN,?_⟩
 refine Pl.aG UN rfl ?_
 refine Pl.dO (v:=.bool true) (fun X=>Pl.gM (Pl.e_t (by omega)) X) UN rfl rfl rfl rfl rfl rfl ?_
 refine Pl.aG UN rfl ?_
 refine Pl.bT (part:=[.bool (decide (abn<0)),.slice ahv (limbs (Int.natAbs abn)).length c131,.int .i64 e129]) (fun X hX=>Pl.Cb.ex (Pl.Cb.ex Ya (Pl.Ex.trans tJ (Pl.Ex.trans uI uT))) hX) rfl Tryz.underlying26 rfl (by kernel_rfl) UN rfl rfl rfl rfl rfl ?_
 refine Pl.ah rfl rfl rfl rfl rfl (fun u X=>Pl.enters Tryz.func58 (by kernel_rfl) rfl u X) ?_
 refine Calls.mono (kM _ 1 (-1) (by decide) (by decide)) ?_
 rintro e w71 ⟨auz,auA,rfl,amG,Sd⟩
 have Yl:Dd 1 (-1) (Dy.dv 1 (-1)) 1 (-1) (-1):=⟨by unfold Dy.Can;decide,rfl,(Sz.lit (K:=1) (by decide) (by decide):Sz 1 1),Int.le_refl _,Int.le_refl _⟩
 have auB:=Pl.Ex.size Sd
 have ahS:=Pl.Ex.trans UN Sd
 refine ⟨_,rfl,ahS,?_⟩
 refine Pl.ah rfl rfl rfl rfl rfl (fun u X=>Pl.enters Tryz.func17 (by kernel_rfl) rfl u X) ?_
 refine Calls.mono (dR _ _ _ (Dy.cut 0 (Dy.dv 7 (-3)) (1:Int)) (Dy.dv 1 (-1)) _ _ _ _ _ _ (Dn.mk (Un.below aml (Pl.Ex.trans tH (Pl.Ex.trans tJ (Pl.Ex.trans uI (Pl.Ex.trans uT (Pl.Ex.trans zD (Pl.Ex.trans El (Pl.Ex.trans EW (Pl.Ex.trans Em (Pl.Ex.trans EX (Pl.Ex.trans EY (Pl.Ex.trans Gw (Pl.Ex.trans Gx (Pl.Ex.trans Gy (Pl.Ex.trans Gz (Pl.Ex.trans GG (Pl.Ex.trans GH (Pl.Ex.trans GI (Pl.Ex.trans GJ (Pl.Ex.trans GK (Pl.Ex.trans GL (Pl.Ex.trans GM (Pl.Ex.trans Ik (Pl.Ex.trans Il (Pl.Ex.trans Js (Pl.Ex.trans Jt (Pl.Ex.trans K9 (Pl.Ex.trans Lc (Pl.Ex.trans LY (Pl.Ex.trans LZ (Pl.Ex.trans NJ (Pl.Ex.trans NK (Pl.Ex.trans PM (Pl.Ex.trans PN (Pl.Ex.trans Sb Sd))))))))))))))))))))))))))))))))))) R8.can R8.val R8.sz R8.lo R8.hi) (Dn.mk amG Yl.can Yl.val Yl.sz Yl.lo Yl.hi) (by decide) (by decide)) ?_
 rintro e w72 ⟨rfl,UO⟩
 rw [decide_eq_true (show (Dy.cut 0 (Dy.dv 7 (-3)) (1:Int))=(Dy.dv 1 (-1)) from (by decide +kernel))]
 have auC:=Pl.Ex.size UO
 have Si:=Pl.Ex.trans ahS UO
 refine ⟨_,rfl,Si,?_⟩
 refine Pl.aG Si rfl ?_
 refine Pl.dO (v:=.bool true) (fun X=>Pl.gM (Pl.e_t (by omega)) X) Si rfl rfl rfl rfl rfl rfl ?_
 refine Pl.aG Si rfl ?_
 refine Pl.dO (v:=.bool true) (fun X=>Pl.gM (Pl.e_t (by omega)) X) Si rfl rfl rfl rfl rfl rfl ?_
 refine Pl.aG Si rfl ?_
 refine Pl.ah rfl rfl rfl rfl rfl (fun u X=>Pl.enters Tryz.func58 (by kernel_rfl) rfl u X) ?_
 refine Calls.mono (kM _ (-3) (-1) (by decide) (by decide)) ?_
 rintro e w73 ⟨auD,auE,rfl,amH,UQ⟩
 have UR:Dd (-3) (-1) (Dy.dv (-3) (-1)) 1 (-1) (-1):=⟨by unfold Dy.Can;decide,rfl,(Sz.lit (K:=1) (by decide) (by decide):Sz (-3) 1),Int.le_refl _,Int.le_refl _⟩
 have auF:=Pl.Ex.size UQ
 have ahT:=Pl.Ex.trans Si UQ
 refine ⟨_,rfl,ahT,?_⟩
 refine Pl.ah rfl rfl rfl rfl rfl (fun u X=>Pl.enters Tryz.func44 (by kernel_rfl) rfl u X) ?_
 refine Calls.mono (xX _ _ (Dy.dv (-3) (-1)) (0:Int) _ _ _ (Dn.mk amH UR.can UR.val UR.sz UR.lo UR.hi) (by decide) (by decide) (by decide) (by omega)) ?_
 rintro e w74 ⟨v233,rfl,ahU,UT⟩
 obtain ⟨auG,auH,rfl,u236⟩:=ahU
 have auI:=Pl.Ex.size UT
 have ahV:=Pl.Ex.trans ahT UT
 refine ⟨_,rfl,ahV,?_⟩
 refine Pl.ah rfl rfl rfl rfl rfl (fun u X=>Pl.enters Tryz.func53 (by kernel_rfl) rfl u X) ?_
 refine Calls.mono (Bg _ (-2) (by decide) (by decide)) ?_
 rintro e w75 ⟨auJ,rfl,ahW,Sj⟩
 obtain ⟨auK,auL,rfl,amI⟩:=ahW
 have auM:=Pl.Ex.size Sj
 have ahX:=Pl.Ex.trans ahV Sj
 refine ⟨_,rfl,ahX,?_⟩
 refine Pl.ah rfl rfl rfl rfl rfl (fun u X=>Pl.enters Tryz.func43 (by kernel_rfl) rfl u X) ?_
 refine Calls.mono (EO _ _ _ (Rat.floor ((Dy.dv (-3) (-1))*2^(0:Int))) (-2) (Zn.of (Un.below u236 Sj)) (Zn.of amI) (Sz.le (yT (J:=0) UR (by omega):Sz (Rat.floor ((Dy.dv (-3) (-1))*2^(0:Int))) 1) (by decide)) (Sz.le (Sz.lit (K:=1) (by decide) (by decide)) (by decide)) true (decide_eq_true (by decide +kernel))) ?_
 rintro e w76 ⟨rfl,UU⟩
 have auN:=Pl.Ex.size UU
 have aeJ:=Pl.Ex.trans ahX UU
 refine ⟨_,rfl,aeJ,?_⟩
 refine Pl.aG aeJ rfl ?_
 refine Pl.ah rfl rfl rfl rfl rfl (fun u X=>Pl.enters Tryz.func58 (by kernel_rfl) rfl u X) ?_
 refine Calls.mono (kM _ 1 (-1) (by decide) (by decide)) ?_
 rintro e w77 ⟨auO,auP,rfl,amJ,UW⟩
 have Ym:Dd 1 (-1) (Dy.dv 1 (-1)) 1 (-1) (-1):=⟨by unfold Dy.Can;decide,rfl,(Sz.lit (K:=1) (by decide) (by decide):Sz 1 1),Int.le_refl _,Int.le_refl _⟩
 have auQ:=Pl.Ex.size UW
 have ahY:=Pl.Ex.trans aeJ UW
 refine ⟨_,rfl,ahY,?_⟩
 refine Pl.ah rfl rfl rfl rfl rfl (fun u X=>Pl.enters Tryz.func58 (by kernel_rfl) rfl u X) ?_
 refine Calls.mono (kM _ 1 (-1) (by decide) (by decide)) ?_
 rintro e w78 ⟨auR,auS,rfl,amK,Sk⟩
 have Yn:Dd 1 (-1) (Dy.dv 1 (-1)) 1 (-1) (-1):=⟨by unfold Dy.Can;decide,rfl,(Sz.lit (K:=1) (by decide) (by decide):Sz 1 1),Int.le_refl _,Int.le_refl _⟩
 have auT:=Pl.Ex.size Sk
 have ahZ:=Pl.Ex.trans ahY Sk
 refine ⟨_,rfl,ahZ,?_⟩
 refine Pl.ah rfl rfl rfl rfl rfl (fun u X=>Pl.enters Tryz.func26 (by kernel_rfl) rfl u X) ?_
 refine Calls.mono (lG _ (hg.ext (Pl.Ex.trans hE1 (Pl.Ex.trans hE2 (Pl.Ex.trans aR (Pl.Ex.trans aP (Pl.Ex.trans aM (Pl.Ex.trans bu (Pl.Ex.trans dh (Pl.Ex.trans bf (Pl.Ex.trans bY (Pl.Ex.trans bM (Pl.Ex.trans ed (Pl.Ex.trans dW (Pl.Ex.trans eu (Pl.Ex.trans dZ (Pl.Ex.trans hE20 (Pl.Ex.trans fT (Pl.Ex.trans gF (Pl.Ex.trans gY (Pl.Ex.trans iM (Pl.Ex.trans jd (Pl.Ex.trans jX (Pl.Ex.trans kv (Pl.Ex.trans kY (Pl.Ex.trans ng (Pl.Ex.trans oI (Pl.Ex.trans qg (Pl.Ex.trans tH (Pl.Ex.trans tJ (Pl.Ex.trans uI (Pl.Ex.trans uT (Pl.Ex.trans zD (Pl.Ex.trans El (Pl.Ex.trans EW (Pl.Ex.trans Em (Pl.Ex.trans EX (Pl.Ex.trans EY (Pl.Ex.trans Gw (Pl.Ex.trans Gx (Pl.Ex.trans Gy (Pl.Ex.trans Gz (Pl.Ex.trans GG (Pl.Ex.trans GH (Pl.Ex.trans GI (Pl.Ex.trans GJ (Pl.Ex.trans GK (Pl.Ex.trans GL (Pl.Ex.trans GM (Pl.Ex.trans Ik (Pl.Ex.trans Il (Pl.Ex.trans Js (Pl.Ex.trans Jt (Pl.Ex.trans K9 (Pl.Ex.trans Lc (Pl.Ex.trans LY (Pl.Ex.trans LZ (Pl.Ex.trans NJ (Pl.Ex.trans NK (Pl.Ex.trans PM (Pl.Ex.trans PN (Pl.Ex.trans Sb (Pl.Ex.trans Sd (Pl.Ex.trans UO (Pl.Ex.trans UQ (Pl.Ex.trans UT (Pl.Ex.trans Sj (Pl.Ex.trans UU (Pl.Ex.trans UW Sk)))))))))))))))))))))))))))))))))))))))))))))))))))))))))))))))))))) _ _ (Dy.dv 1 (-1)) (Dy.dv 1 (-1)) 1 1 (-1) 0 (Dn.le (Dn.mk (Un.below amJ Sk) Ym.can Ym.val Ym.sz Ym.lo Ym.hi) (by decide) (by decide) (by decide)) (Dn.le (Dn.mk amK Yn.can Yn.val Yn.sz Yn.lo Yn.hi) (by decide) (by decide) (by decide)) (by decide) (by decide) (by decide) (by decide) (-2) 96 (by decide) (by decide) (by decide) (by decide)) ?_
 rintro e w79 ⟨auU,rfl,ah0,Yo⟩
 obtain ⟨auV,auW,auX,auY,rfl,amL,Sm⟩:=ah0
 have apq:=Sm.lo
 have apr:=Sm.hi
 have auZ:=Pl.Ex.size Yo
 have ah1:=Pl.Ex.trans ahZ Yo
 refine ⟨_,rfl,ah1,?_⟩
 refine Pl.ah rfl rfl rfl rfl rfl (fun u X=>Pl.enters Tryz.func58 (by kernel_rfl) rfl u X) ?_
 refine Calls.mono (kM _ 1 0 (by decide) (by decide)) ?_
 rintro e w80 ⟨au0,au1,rfl,amM,UX⟩
 have Yp:Dd 1 0 (Dy.dv 1 0) 1 0 0:=⟨by unfold Dy.Can;decide,rfl,(Sz.lit (K:=1) (by decide) (by decide):Sz 1 1),Int.le_refl _,Int.le_refl _⟩
 have au2:=Pl.Ex.size UX
 have ah2:=Pl.Ex.trans ah1 UX
 refine ⟨_,rfl,ah2,?_⟩
 refine Pl.ah rfl rfl rfl rfl rfl (fun u X=>Pl.enters Tryz.func17 (by kernel_rfl) rfl u X) ?_
 refine Calls.mono (dR _ _ _ ((Dy.dv 1 (-1))+(Dy.dv 1 (-1))) (Dy.dv 1 0) _ _ _ _ _ _ (Dn.mk (Un.below amL UX) Sm.can Sm.val Sm.sz Sm.lo Sm.hi) (Dn.mk amM Yp.can Yp.val Yp.sz Yp.lo Yp.hi) (by decide) (by decide)) ?_
 rintro e w81 ⟨rfl,Yq⟩
 rw [decide_eq_true (show ((Dy.dv 1 (-1))+(Dy.dv 1 (-1)))=(Dy.dv 1 0) from (by decide +kernel))]
 have au3:=Pl.Ex.size Yq
 have aeK:=Pl.Ex.trans ah2 Yq
 refine ⟨_,rfl,aeK,?_⟩
 refine Pl.aG aeK rfl ?_
 refine Pl.ah rfl rfl rfl rfl rfl (fun u X=>Pl.enters Tryz.func58 (by kernel_rfl) rfl u X) ?_
 refine Calls.mono (kM _ 1 0 (by decide) (by decide)) ?_
 rintro e w82 ⟨au4,au5,rfl,amN,Yr⟩
 have Yt:Dd 1 0 (Dy.dv 1 0) 1 0 0:=⟨by unfold Dy.Can;decide,rfl,(Sz.lit (K:=1) (by decide) (by decide):Sz 1 1),Int.le_refl _,Int.le_refl _⟩
 have au6:=Pl.Ex.size Yr
 have ah3:=Pl.Ex.trans aeK Yr
 refine ⟨_,rfl,ah3,?_⟩
 refine Pl.ah rfl rfl rfl rfl rfl (fun u X=>Pl.enters Tryz.func58 (by kernel_rfl) rfl u X) ?_
 refine Calls.mono (kM _ 3 0 (by decide) (by decide)) ?_
 rintro e w83 ⟨au7,au8,rfl,amO,UY⟩
 have Yu:Dd 3 0 (Dy.dv 3 0) 1 0 0:=⟨by unfold Dy.Can;decide,rfl,(Sz.lit (K:=1) (by decide) (by decide):Sz 3 1),Int.le_refl _,Int.le_refl _⟩
 have au9:=Pl.Ex.size UY
 have ah4:=Pl.Ex.trans ah3 UY
 refine ⟨_,rfl,ah4,?_⟩
 refine Pl.ah rfl rfl rfl rfl rfl (fun u X=>Pl.enters Tryz.func32 (by kernel_rfl) rfl u X) ?_
 refine Calls.mono (zo _ (hg.ext (Pl.Ex.trans hE1 (Pl.Ex.trans hE2 (Pl.Ex.trans aR (Pl.Ex.trans aP (Pl.Ex.trans aM (Pl.Ex.trans bu (Pl.Ex.trans dh (Pl.Ex.trans bf (Pl.Ex.trans bY (Pl.Ex.trans bM (Pl.Ex.trans ed (Pl.Ex.trans dW (Pl.Ex.trans eu (Pl.Ex.trans dZ (Pl.Ex.trans hE20 (Pl.Ex.trans fT (Pl.Ex.trans gF (Pl.Ex.trans gY (Pl.Ex.trans iM (Pl.Ex.trans jd (Pl.Ex.trans jX (Pl.Ex.trans kv (Pl.Ex.trans kY (Pl.Ex.trans ng (Pl.Ex.trans oI (Pl.Ex.trans qg (Pl.Ex.trans tH (Pl.Ex.trans tJ (Pl.Ex.trans uI (Pl.Ex.trans uT (Pl.Ex.trans zD (Pl.Ex.trans El (Pl.Ex.trans EW (Pl.Ex.trans Em (Pl.Ex.trans EX (Pl.Ex.trans EY (Pl.Ex.trans Gw (Pl.Ex.trans Gx (Pl.Ex.trans Gy (Pl.Ex.trans Gz (Pl.Ex.trans GG (Pl.Ex.trans GH (Pl.Ex.trans GI (Pl.Ex.trans GJ (Pl.Ex.trans GK (Pl.Ex.trans GL (Pl.Ex.trans GM (Pl.Ex.trans Ik (Pl.Ex.trans Il (Pl.Ex.trans Js (Pl.Ex.trans Jt (Pl.Ex.trans K9 (Pl.Ex.trans Lc (Pl.Ex.trans LY (Pl.Ex.trans LZ (Pl.Ex.trans NJ (Pl.Ex.trans NK (Pl.Ex.trans PM (Pl.Ex.trans PN (Pl.Ex.trans Sb (Pl.Ex.trans Sd (Pl.Ex.trans UO (Pl.Ex.trans UQ (Pl.Ex.trans UT (Pl.Ex.trans Sj (Pl.Ex.trans UU (Pl.Ex.trans UW (Pl.Ex.trans Sk (Pl.Ex.trans Yo (Pl.Ex.trans UX (Pl.Ex.trans Yq (Pl.Ex.trans Yr UY))))))))))))))))))))))))))))))))))))))))))))))))))))))))))))))))))))))))) _ _ (Dy.dv 1 0) (Dy.dv 3 0) 1 0 (0) 0 (Dn.le (Dn.mk (Un.below amN UY) Yt.can Yt.val Yt.sz Yt.lo Yt.hi) (by decide) (by decide) (by decide)) (Dn.le (Dn.mk amO Yu.can Yu.val Yu.sz Yu.lo Yu.hi) (by decide) (by decide) (by decide)) (by decide) (by decide) (by decide) (by decide) (-1) 64 (by decide) (by decide) (by decide) (by decide)) ?_
 rintro e w84 ⟨au',rfl,ah5,abx⟩
 obtain ⟨ava,e275,avb,avc,rfl,amP,Sq⟩:=ah5
 have aps:=Sq.lo
 have apt:=Sq.hi
 have avd:=Pl.Ex.size abx
 have ah6:=Pl.Ex.trans ah4 abx
 refine ⟨_,rfl,ah6,?_⟩
 refine Pl.ah rfl rfl rfl rfl rfl (fun u X=>Pl.enters Tryz.func58 (by kernel_rfl) rfl u X) ?_
 refine Calls.mono (kM _ 1 1 (by decide) (by decide)) ?_
 rintro e w85 ⟨ave,avf,rfl,amQ,Yv⟩
 have Yw:Dd 1 1 (Dy.dv 1 1) 1 1 1:=⟨by unfold Dy.Can;decide,rfl,(Sz.lit (K:=1) (by decide) (by decide):Sz 1 1),Int.le_refl _,Int.le_refl _⟩
 have avg:=Pl.Ex.size Yv
 have ah7:=Pl.Ex.trans ah6 Yv
 refine ⟨_,rfl,ah7,?_⟩
 refine Pl.ah rfl rfl rfl rfl rfl (fun u X=>Pl.enters Tryz.func17 (by kernel_rfl) rfl u X) ?_
 refine Calls.mono (dR _ _ _ (((Dy.dv 1 0)+(Dy.dv 3 0))/2) (Dy.dv 1 1) _ _ _ _ _ _ (Dn.mk (Un.below amP Yv) Sq.can Sq.val Sq.sz Sq.lo Sq.hi) (Dn.mk amQ Yw.can Yw.val Yw.sz Yw.lo Yw.hi) (by decide) (by decide)) ?_
 rintro e w86 ⟨rfl,aby⟩
 rw [decide_eq_true (show (((Dy.dv 1 0)+(Dy.dv 3 0))/2)=(Dy.dv 1 1) from (by decide +kernel))]
 have avh:=Pl.Ex.size aby
 have aeL:=Pl.Ex.trans ah7 aby
 refine ⟨_,rfl,aeL,?_⟩
 refine Pl.aG aeL rfl ?_
 refine Pl.ah rfl rfl rfl rfl rfl (fun u X=>Pl.enters Tryz.func58 (by kernel_rfl) rfl u X) ?_
 refine Calls.mono (kM _ 1 (-1) (by decide) (by decide)) ?_
 rintro e w87 ⟨avi,avj,rfl,amR,abz⟩
 have Yx:Dd 1 (-1) (Dy.dv 1 (-1)) 1 (-1) (-1):=⟨by unfold Dy.Can;decide,rfl,(Sz.lit (K:=1) (by decide) (by decide):Sz 1 1),Int.le_refl _,Int.le_refl _⟩
 have avk:=Pl.Ex.size abz
 have ah8:=Pl.Ex.trans aeL abz
 refine ⟨_,rfl,ah8,?_⟩
 refine Pl.ah rfl rfl rfl rfl rfl (fun u X=>Pl.enters Tryz.func58 (by kernel_rfl) rfl u X) ?_
 refine Calls.mono (kM _ 1 (-2) (by decide) (by decide)) ?_
 rintro e w88 ⟨avl,avm,rfl,amS,Yy⟩
 have Yz:Dd 1 (-2) (Dy.dv 1 (-2)) 1 (-2) (-2):=⟨by unfold Dy.Can;decide,rfl,(Sz.lit (K:=1) (by decide) (by decide):Sz 1 1),Int.le_refl _,Int.le_refl _⟩
 have avn:=Pl.Ex.size Yy
 have ah9:=Pl.Ex.trans ah8 Yy
 refine ⟨_,rfl,ah9,?_⟩
 refine Pl.ah rfl rfl rfl rfl rfl (fun u X=>Pl.enters Tryz.func20 (by kernel_rfl) rfl u X) ?_
 refine Calls.mono (vU _ (hg.ext (Pl.Ex.trans hE1 (Pl.Ex.trans hE2 (Pl.Ex.trans aR (Pl.Ex.trans aP (Pl.Ex.trans aM (Pl.Ex.trans bu (Pl.Ex.trans dh (Pl.Ex.trans bf (Pl.Ex.trans bY (Pl.Ex.trans bM (Pl.Ex.trans ed (Pl.Ex.trans dW (Pl.Ex.trans eu (Pl.Ex.trans dZ (Pl.Ex.trans hE20 (Pl.Ex.trans fT (Pl.Ex.trans gF (Pl.Ex.trans gY (Pl.Ex.trans iM (Pl.Ex.trans jd (Pl.Ex.trans jX (Pl.Ex.trans kv (Pl.Ex.trans kY (Pl.Ex.trans ng (Pl.Ex.trans oI (Pl.Ex.trans qg (Pl.Ex.trans tH (Pl.Ex.trans tJ (Pl.Ex.trans uI (Pl.Ex.trans uT (Pl.Ex.trans zD (Pl.Ex.trans El (Pl.Ex.trans EW (Pl.Ex.trans Em (Pl.Ex.trans EX (Pl.Ex.trans EY (Pl.Ex.trans Gw (Pl.Ex.trans Gx (Pl.Ex.trans Gy (Pl.Ex.trans Gz (Pl.Ex.trans GG (Pl.Ex.trans GH (Pl.Ex.trans GI (Pl.Ex.trans GJ (Pl.Ex.trans GK (Pl.Ex.trans GL (Pl.Ex.trans GM (Pl.Ex.trans Ik (Pl.Ex.trans Il (Pl.Ex.trans Js (Pl.Ex.trans Jt (Pl.Ex.trans K9 (Pl.Ex.trans Lc (Pl.Ex.trans LY (Pl.Ex.trans LZ (Pl.Ex.trans NJ (Pl.Ex.trans NK (Pl.Ex.trans PM (Pl.Ex.trans PN (Pl.Ex.trans Sb (Pl.Ex.trans Sd (Pl.Ex.trans UO (Pl.Ex.trans UQ (Pl.Ex.trans UT (Pl.Ex.trans Sj (Pl.Ex.trans UU (Pl.Ex.trans UW (Pl.Ex.trans Sk (Pl.Ex.trans Yo (Pl.Ex.trans UX (Pl.Ex.trans Yq (Pl.Ex.trans Yr (Pl.Ex.trans UY (Pl.Ex.trans abx (Pl.Ex.trans Yv (Pl.Ex.trans aby (Pl.Ex.trans abz Yy)))))))))))))))))))))))))))))))))))))))))))))))))))))))))))))))))))))))))))))) _ _ (Dy.dv 1 (-1)) (Dy.dv 1 (-2)) 1 1 (-2) 0 (Dn.le (Dn.mk (Un.below amR Yy) Yx.can Yx.val Yx.sz Yx.lo Yx.hi) (by decide) (by decide) (by decide)) (Dn.le (Dn.mk amS Yz.can Yz.val Yz.sz Yz.lo Yz.hi) (by decide) (by decide) (by decide)) (by decide) (by decide) (by decide) (by decide) (-3) 96 (by decide) (by decide) (by decide) (by decide)) ?_
 rintro e w89 ⟨ah',rfl,YA,aeM⟩
 have apu:=(show -1≤ah'∧ah'≤1 from ⟨YA.1,YA.2.1⟩)
 have avo:=Pl.Ex.size aeM
 have abA:=Pl.Ex.trans ah9 aeM
 refine ⟨_,rfl,abA,?_⟩
 refine Pl.dO (v:=.bool true) (fun X=>nN (by have:=YA.2.2.2.2.2 (by decide +kernel);omega) X) abA rfl rfl rfl rfl rfl rfl ?_
 refine Pl.aG abA rfl ?_
 refine Pl.ah rfl rfl rfl rfl rfl (fun u X=>Pl.enters Tryz.func58 (by kernel_rfl) rfl u X) ?_
 refine Calls.mono (kM _ (-3) (-2) (by decide) (by decide)) ?_
 rintro e w90 ⟨avp,avq,rfl,amT,aeN⟩
 have YB:Dd (-3) (-2) (Dy.dv (-3) (-2)) 1 (-2) (-2):=⟨by unfold Dy.Can;decide,rfl,(Sz.lit (K:=1) (by decide) (by decide):Sz (-3) 1),Int.le_refl _,Int.le_refl _⟩
 have avr:=Pl.Ex.size aeN
 have aia:=Pl.Ex.trans abA aeN
 refine ⟨_,rfl,aia,?_⟩
 refine Pl.ah rfl rfl rfl rfl rfl (fun u X=>Pl.enters Tryz.func35 (by kernel_rfl) rfl u X) ?_
 refine Calls.mono (nu _ _ (Dy.dv (-3) (-2)) 1 0 1 _ _ (Dn.mk amT YB.can YB.val YB.sz YB.lo YB.hi) (by decide) (by decide) (by decide) (by decide) (by decide) (by decide)) ?_
 rintro e w91 ⟨avs,rfl,aib,aeO⟩
 obtain ⟨avt,avu,avv,avw,rfl,amU,amV,aic,aid⟩:=aib
 have avx:=Pl.Ex.size aeO
 have aie:=Pl.Ex.trans aia aeO
 refine ⟨_,rfl,aie,?_⟩
 refine Pl.ah rfl rfl rfl rfl rfl (fun u X=>Pl.enters Tryz.func57 (by kernel_rfl) rfl u X) ?_
 refine Calls.mono (xk _ (-3) 4 (by decide) (by decide) (by decide)) ?_
 rintro e w92 ⟨avy,rfl,aif,YC⟩
 obtain ⟨avz,avA,avB,avC,rfl,amW,amX,aih,aii⟩:=aif
 have avD:=Pl.Ex.size YC
 have aij:=Pl.Ex.trans aie YC
 refine ⟨_,rfl,aij,?_⟩
 refine Pl.ah rfl rfl rfl rfl rfl (fun u X=>Pl.enters Tryz.func34 (by kernel_rfl) rfl u X) ?_
 refine Calls.mono (wy _ _ _ (Dy.dv (-3) (-2)) (Rat.divInt (-3) 4) 1 1 1 1 (Qn.mk (Un.below amU YC) (Un.below amV YC) aic aid) (Qn.mk amW amX aih aii) (by omega) (by omega) (by omega) (by omega)) ?_
 rintro e w93 ⟨rfl,aeP⟩
 rw [decide_eq_true (show (Dy.dv (-3) (-2))=(Rat.divInt (-3) 4) from (by decide +kernel))]
 have avE:=Pl.Ex.size aeP
 have aeQ:=Pl.Ex.trans aij aeP
 refine ⟨_,rfl,aeQ,?_⟩
 refine Pl.aG aeQ rfl ?_
 refine Pl.ah rfl rfl rfl rfl rfl (fun u X=>Pl.enters Tryz.func58 (by kernel_rfl) rfl u X) ?_
 refine Calls.mono (kM _ (-1) 5 (by decide) (by decide)) ?_
 rintro e w94 ⟨avF,avG,rfl,amY,aeR⟩
 have YD:Dd (-1) 5 (Dy.dv (-1) 5) 1 5 5:=⟨by unfold Dy.Can;decide,rfl,(Sz.lit (K:=1) (by decide) (by decide):Sz (-1) 1),Int.le_refl _,Int.le_refl _⟩
 have avH:=Pl.Ex.size aeR
 have aik:=Pl.Ex.trans aeQ aeR
 refine ⟨_,rfl,aik,?_⟩
 refine Pl.ah rfl rfl rfl rfl rfl (fun u X=>Pl.enters Tryz.func22 (by kernel_rfl) rfl u X) ?_
 refine Calls.mono (qj _ _ (Dy.dv (-1) 5) _ _ _ (Dn.mk amY YD.can YD.val YD.sz YD.lo YD.hi)) ?_
 rintro e w95 ⟨ail,rfl,YE,aeS⟩
 have apv:=(show -1≤ail∧ail≤1 from ⟨YE.1,YE.2.1⟩)
 have avI:=Pl.Ex.size aeS
 have aeT:=Pl.Ex.trans aik aeS
 refine ⟨_,rfl,aeT,?_⟩
 refine Pl.dO (v:=.bool true) (fun X=>nN (by have:=YE.2.2.1.2 (by decide +kernel);omega) X) aeT rfl rfl rfl rfl rfl rfl ?_
 refine Pl.aG aeT rfl ?_
 refine Pl.af ?_
 repeat refine Pl.ay ?_
 exact Pl.dU rfl rfl  (⟨rfl,(Pl.Ex.trans hE1 (Pl.Ex.trans hE2 (Pl.Ex.trans aR (Pl.Ex.trans aP (Pl.Ex.trans aM (Pl.Ex.trans bu (Pl.Ex.trans dh (Pl.Ex.trans bf (Pl.Ex.trans bY (Pl.Ex.trans bM (Pl.Ex.trans ed (Pl.Ex.trans dW (Pl.Ex.trans eu (Pl.Ex.trans dZ (Pl.Ex.trans hE20 (Pl.Ex.trans fT (Pl.Ex.trans gF (Pl.Ex.trans gY (Pl.Ex.trans iM (Pl.Ex.trans jd (Pl.Ex.trans jX (Pl.Ex.trans kv (Pl.Ex.trans kY (Pl.Ex.trans ng (Pl.Ex.trans oI (Pl.Ex.trans qg (Pl.Ex.trans tH (Pl.Ex.trans tJ (Pl.Ex.trans uI (Pl.Ex.trans uT (Pl.Ex.trans zD (Pl.Ex.trans El (Pl.Ex.trans EW (Pl.Ex.trans Em (Pl.Ex.trans EX (Pl.Ex.trans EY (Pl.Ex.trans Gw (Pl.Ex.trans Gx (Pl.Ex.trans Gy (Pl.Ex.trans Gz (Pl.Ex.trans GG (Pl.Ex.trans GH (Pl.Ex.trans GI (Pl.Ex.trans GJ (Pl.Ex.trans GK (Pl.Ex.trans GL (Pl.Ex.trans GM (Pl.Ex.trans Ik (Pl.Ex.trans Il (Pl.Ex.trans Js (Pl.Ex.trans Jt (Pl.Ex.trans K9 (Pl.Ex.trans Lc (Pl.Ex.trans LY (Pl.Ex.trans LZ (Pl.Ex.trans NJ (Pl.Ex.trans NK (Pl.Ex.trans PM (Pl.Ex.trans PN (Pl.Ex.trans Sb (Pl.Ex.trans Sd (Pl.Ex.trans UO (Pl.Ex.trans UQ (Pl.Ex.trans UT (Pl.Ex.trans Sj (Pl.Ex.trans UU (Pl.Ex.trans UW (Pl.Ex.trans Sk (Pl.Ex.trans Yo (Pl.Ex.trans UX (Pl.Ex.trans Yq (Pl.Ex.trans Yr (Pl.Ex.trans UY (Pl.Ex.trans abx (Pl.Ex.trans Yv (Pl.Ex.trans aby (Pl.Ex.trans abz (Pl.Ex.trans Yy (Pl.Ex.trans aeM (Pl.Ex.trans aeN (Pl.Ex.trans aeO (Pl.Ex.trans YC (Pl.Ex.trans aeP (Pl.Ex.trans aeR aeS))))))))))))))))))))))))))))))))))))))))))))))))))))))))))))))))))))))))))))))))))))⟩)
end Go.Proofs.YtdpmbgomcjnohaaGreatDoor
