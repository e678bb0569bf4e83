/- Inverses modulo a natural. -/
import Derived.Test.YtnilonnkcbkdmaaGreatDoorBbd

namespace Go.Proofs.YtnilonnkcbkdmaaGreatDoor
open Go.RowKit
set_option linter.all false
set_option maxRecDepth 100000
set_option maxHeartbeats 8000000
namespace EGH
set_option linter.all false
set_option maxRecDepth 100000
set_option maxHeartbeats 8000000
theorem Pj (u:Array Value) (X:World):(callFunc 15 u).run Tryz.prog X = .ok (.enter 15 u) X:=Pl.enters Tryz.func15 (by kernel_rfl) rfl u X
theorem oC (u:Array Value) (X:World):(callFunc 44 u).run Tryz.prog X = .ok (.enter 44 u) X:=Pl.enters Tryz.func44 (by kernel_rfl) rfl u X
theorem asc (u:Array Value) (X:World):(callFunc 58 u).run Tryz.prog X = .ok (.enter 58 u) X:=Pl.enters Tryz.func58 (by kernel_rfl) rfl u X
theorem ase (u:Array Value) (X:World):(callFunc 59 u).run Tryz.prog X = .ok (.enter 59 u) X:=Pl.enters Tryz.func59 (by kernel_rfl) rfl u X
theorem Sy (u:Array Value) (X:World):(callFunc 60 u).run Tryz.prog X = .ok (.enter 60 u) X:=Pl.enters Tryz.func60 (by kernel_rfl) rfl u X
end EGH
open EGH
theorem SA (w:World) (va vb:Value) (n m:Nat) (ha:Un w va n) (hb:Un w vb m) (hln:Sn n 900) (h:n=m):Calls Tryz.prog 59 #[va,vb] w fun e w'=>e = .returned (.bool true)∧Ext w w' :=
 (xU w va vb n m ha hb (hln.le (by decide))).mono fun e w' h2=>by rw [decide_eq_true h] at h2;exact h2
theorem SB (w:World) (va vb:Value) (n m:Nat) (ha:Un w va n) (hb:Un w vb m) (hln:Sn n 900) (h:n≠m):Calls Tryz.prog 59 #[va,vb] w fun e w'=>e = .returned (.bool false)∧Ext w w' :=
 (xU w va vb n m ha hb (hln.le (by decide))).mono fun e w' h2=>by rw [decide_eq_false h] at h2;exact h2
theorem uO (w:World) (jm tY:Value) (a m:Nat) (bn:Un w jm a) (qb:Un w tY m) (hla:Sn a 90) (hlm:Sn m 90) (hm0:m=0) :
  Calls Tryz.prog 24 #[jm,tY] w fun e w'=>e = .returned (.tuple #[.slice none 0 0,.int .i64 4])∧Ext w w':=by
 refine Pl.aV (n:=44) (vs:=[jm,tY]) Tryz.func24 rfl (by kernel_rfl) (by simp) ?_
 refine Pl.az ?_
 refine Pl.ay (by kernel_rfl) ?_
 refine Pl.aj trivial rfl rfl rfl rfl rfl ?_
 refine Pl.aj trivial rfl rfl rfl rfl rfl ?_
 refine Pl.ak ?_
 refine Pl.az ?_
 refine Pl.ay (by kernel_rfl) ?_
 refine Pl.ah trivial rfl rfl rfl rfl rfl ?_
 refine Pl.ah trivial rfl rfl rfl rfl rfl ?_
 refine Pl.aA rfl rfl rfl rfl rfl asc ?_
 refine Calls.mono (OU _ _ _ a bn (hm0 ▸ qb) (Sn.le hla (by decide))) ?_
 rintro e w1 ⟨rfl,hB1⟩
 refine ⟨_,rfl,trivial,?_⟩
 refine Pl.ah trivial rfl rfl rfl rfl rfl ?_
 refine Pl.aB trivial rfl rfl rfl rfl rfl rfl ?_
 refine Pl.aB trivial rfl rfl rfl rfl rfl rfl ?_
 refine Pl.aB trivial rfl rfl rfl rfl rfl rfl ?_
 refine Pl.aj trivial rfl rfl rfl rfl rfl ?_
 refine Pl.aj trivial rfl rfl rfl rfl rfl ?_
 refine Pl.aj trivial rfl rfl rfl rfl rfl ?_
 refine Pl.ak ?_
 refine Pl.az ?_
 refine Pl.az ?_
 refine Pl.ay (by kernel_rfl) ?_
 refine Pl.ah trivial rfl rfl rfl rfl rfl ?_
 refine Pl.aI (v:=(.bool true)) trivial rfl rfl rfl rfl rfl rfl (fun X=>by go_simp) ?_
 refine Pl.ak ?_
 refine Pl.dh rfl ?_
 refine Pl.az ?_
 refine Pl.ay (by kernel_rfl) ?_
 refine Pl.aj trivial rfl rfl rfl rfl rfl ?_
 refine Pl.aj trivial rfl rfl rfl rfl rfl ?_
 refine Pl.ak ?_
 refine Pl.iV rfl rfl rfl ?_
 exact ⟨rfl,hB1⟩
theorem KX (w:World) (jm tY:Value) (a m:Nat) (bn:Un w jm a) (qb:Un w tY m) (hla:Sn a 90) (hlm:Sn m 90) (hm0:m≠0) :
  Calls Tryz.prog 24 #[jm,tY] w fun e w'=>(Nat.gcd (a%m) m≠1∧e = .returned (.tuple #[.slice none 0 0,.int .i64 4])∨Nat.gcd (a%m) m=1∧∃ z,e = .returned (.tuple #[z,.int .i64 0])∧Un w' z ((cf (quo (a%m) m) 1 0).1%(m:Int)).natAbs)∧Ext w w':=by
 refine Pl.aV (n:=44) (vs:=[jm,tY]) Tryz.func24 rfl (by kernel_rfl) (by simp) ?_
 refine Pl.az ?_
 refine Pl.ay (by kernel_rfl) ?_
 refine Pl.aj trivial rfl rfl rfl rfl rfl ?_
 refine Pl.aj trivial rfl rfl rfl rfl rfl ?_
 refine Pl.ak ?_
 refine Pl.az ?_
 refine Pl.ay (by kernel_rfl) ?_
 refine Pl.ah trivial rfl rfl rfl rfl rfl ?_
 refine Pl.ah trivial rfl rfl rfl rfl rfl ?_
 refine Pl.aA rfl rfl rfl rfl rfl asc ?_
 refine Calls.mono (qh _ _ _ a m _ _ bn qb (Sn.le hla (by decide)) (Sn.le hlm (by decide)) hm0 rfl rfl) ?_
 rintro e w1 ⟨⟨Yu,uR,rfl,M5,pR⟩,hB1⟩
 refine ⟨_,rfl,trivial,?_⟩
 have Pk:Sn (a/m) 90:=Sn.div hla
 have qJ:Sn (a%m) 90:=Sn.mod hlm hm0
 refine Pl.ah trivial rfl rfl rfl rfl rfl ?_
 refine Pl.aB trivial rfl rfl rfl rfl rfl rfl ?_
 refine Pl.aB trivial rfl rfl rfl rfl rfl rfl ?_
 refine Pl.aB trivial rfl rfl rfl rfl rfl rfl ?_
 refine Pl.aj trivial rfl rfl rfl rfl rfl ?_
 refine Pl.aj trivial rfl rfl rfl rfl rfl ?_
 refine Pl.aj trivial rfl rfl rfl rfl rfl ?_
 refine Pl.ak ?_
 refine Pl.az ?_
 refine Pl.az ?_
 refine Pl.ay (by kernel_rfl) ?_
 refine Pl.ah trivial rfl rfl rfl rfl rfl ?_
 refine Pl.aI (v:=(.bool false)) trivial rfl rfl rfl rfl rfl rfl (fun X=>by go_simp) ?_
 refine Pl.ak ?_
 refine Pl.bD rfl ?_
 refine Pl.bN ?_
 refine Pl.az ?_
 refine Pl.ay (by kernel_rfl) ?_
 refine Pl.ah trivial rfl rfl rfl rfl rfl ?_
 refine Pl.ah trivial rfl rfl rfl rfl rfl ?_
 have Dy:=Un.below qb hB1
 refine Pl.aA rfl rfl rfl rfl rfl Pj ?_
 refine Calls.mono (tK _ _ _ (a%m) m pR Dy (Sn.mod hlm hm0) hlm hm0) ?_
 rintro e w2 ⟨kH,uN,rE,rfl,kZ,lg,mY,hB2⟩
 refine ⟨_,rfl,trivial,?_⟩
 have lK:Sn (Nat.gcd (a%m) m) 90:=iD (Sn.mod hlm hm0) hlm
 have iU:Sz (cf (quo (a%m) m) 1 0).1 90:=Gq hlm
 have rF:Sz (cf (quo (a%m) m) 0 1).1 90:=uB (Sn.mod hlm hm0)
 refine Pl.ah trivial rfl rfl rfl rfl rfl ?_
 refine Pl.aB trivial rfl rfl rfl rfl rfl rfl ?_
 refine Pl.aB trivial rfl rfl rfl rfl rfl rfl ?_
 refine Pl.aB trivial rfl rfl rfl rfl rfl rfl ?_
 refine bI rfl rfl rfl rfl (fun _ _=>trivial) ?_
 intro N7 w3 hB3 Gv i_7
 refine bI rfl rfl rfl rfl (fun _ _=>trivial) ?_
 intro N8 w4 hB4 MX i_8
 refine Pl.aj trivial rfl rfl rfl rfl rfl ?_
 obtain ⟨xP,xg,xQ,xh,rfl⟩:=Zn.sh lg
 have al9:=Ib.ext i_7 hB4
 refine iP rfl rfl rfl rfl rfl rfl al9 (fun _ _=>trivial) ?_
 intro w5 MR abo Pd I_5
 have bH:=MR _ (Ext.below hB3 hB4) (Nat.le_trans (Below.size (Ext.refl w2)) Gv)
 have ama:=Pd _ _ _ (Nat.ne_of_gt (Nat.lt_of_lt_of_le (Ib.ext i_7 (Ext.refl w3)).1 MX)) i_8
 obtain ⟨ayP,ayQ,ayR,ayS,rfl⟩:=Zn.sh mY
 refine iP rfl rfl rfl rfl rfl rfl ama (fun _ _=>trivial) ?_
 intro w6 ayT aFJ ayU I_6
 have aZ:=ayT _ bH (Nat.le_trans (Below.size hB3) MX)
 have amb:=ayU _ _ _ (Nat.ne_of_lt (Nat.lt_of_lt_of_le (Ib.ext i_7 (Ext.refl w3)).1 MX)) I_5
 refine Pl.ak ?_
 refine Pl.az ?_
 refine Pl.az ?_
 by_cases hg:Nat.gcd (a%m) m=1
 · refine Pl.ay (by kernel_rfl) ?_
   refine Pl.ah trivial rfl rfl rfl rfl rfl ?_
   refine cO (n:=1) (by decide) rfl rfl rfl rfl rfl (fun _ _=>trivial) ?_
   intro Vz w7 bW vX
   have Ca:=U.one vX
   have BV:=Un.below kZ (Ext.below aZ bW)
   refine Pl.aA rfl rfl rfl rfl rfl ase ?_
   refine Calls.mono (SA _ _ _ (Nat.gcd (a%m) m) 1 BV Ca (Sn.le lK (by decide)) hg) ?_
   rintro e w8 ⟨rfl,cB⟩
   refine ⟨_,rfl,trivial,?_⟩
   refine Pl.nY (v:=(.bool false)) trivial rfl rfl rfl rfl rfl (fun X=>rfl) ?_
   refine Pl.ak ?_
   refine Pl.bD rfl ?_
   refine Pl.bN ?_
   refine Pl.az ?_
   refine Pl.nK (S:=fun X=>Ext w8 X) fo (Ext.drew (Ext.refl _)) ?_
   generalize w8.drew=w9
   intro eP
   have wO:=eP
   refine Pl.lm 3 1023 (fun l' w'=>∃ (Fe:Nat) (Ff:Nat) (abQ:Value) (abR:Value),l'=[(4,.slice none 0 0),(11,.pointer (some ⟨Fe,0,none⟩)),(12,.pointer (some ⟨Ff,0,none⟩)),(39,abQ),(40,abR),(41,(.int .i64 0))]∧Ext w8 w'∧w8.heap.size≤Fe∧Ib w' Fe false (.slice none 0 0)∧w8.heap.size≤Ff∧Ib w' Ff false (.slice none 0 0)∧Zn w' abQ ((cf (quo (a%m) m) 1 0).1/((m:Nat):Int))∧Zn w' abR ((cf (quo (a%m) m) 1 0).1%((m:Nat):Int))∧Fe≠Ff) ?_ ?_
   rotate_left
   · intro l5
     refine Pl.lm 5 255 (fun l' w'=>∃ (abQ:Value) (abR:Value),l'=[(4,.slice none 0 0),(39,abQ),(40,abR),(41,(.int .i64 0))]∧Ext w8 w'∧Zn w' abQ ((cf (quo (a%m) m) 1 0).1/((m:Nat):Int))∧Zn w' abR ((cf (quo (a%m) m) 1 0).1%((m:Nat):Int))) ?_ ?_
     · rintro _ asf ⟨yS,yT,rfl,oK,KY,KZ⟩
       have zT:=oK
       have iH:Sz ((m:Nat):Int) 90:=Sn.sz hlm
       have iH:Sz ((m:Nat):Int) 90:=Sn.sz hlm
       have asg:Sz ((cf (quo (a%m) m) 1 0).1/((m:Nat):Int)) 90:=Sz.div iU
       have ash:Sz ((cf (quo (a%m) m) 1 0).1%((m:Nat):Int)) 90:=Sz.mod iH (by omega)
       refine Pl.dY [8,9] 4 (by kernel_rfl) (by kernel_rfl) (by kernel_rfl) (Pl.aJ ?_ (Pl.aJ ?_ Pl.aX))
       · refine bI rfl rfl rfl rfl (fun _ k=>Ext.below zT k) ?_
         intro abS amc l6 SC Pm
         have GN:=Ext.below zT l6
         refine Pl.ak ?_
         refine Pl.aS [(false,9,511)] 1023 3 Pl.aD (by kernel_rfl) (by kernel_rfl) (by kernel_rfl) ?_
         refine bI rfl rfl rfl rfl (fun _ k=>Ext.below GN k) ?_
         intro abT ayV xV GQ abU
         have asi:=Ext.below GN xV
         refine Pl.ak ?_
         have AY:=Ib.ext Pm xV
         have sj:=Zn.below KY (Ext.below l6 xV)
         have su:=Zn.below KZ (Ext.below l6 xV)
         exact Pl.bK [(4,.slice none 0 0),(11,.pointer (some ⟨abS,0,none⟩)),(12,.pointer (some ⟨abT,0,none⟩)),(39,yS),(40,yT),(41,(.int .i64 0))] (Pl.aa rfl (Pl.aa rfl (Pl.aa rfl (Pl.aa rfl (Pl.aa rfl (Pl.aa rfl Pl.aK)))))) (l5 _ _ ⟨abS,abT,yS,yT,rfl,(Ext.below oK (Ext.below l6 xV)),(Nat.le_trans (Below.size oK) SC),AY,(Nat.le_trans (Below.size (Ext.below oK l6)) GQ),abU,sj,su,(Nat.ne_of_lt (Nat.lt_of_lt_of_le (Pm).1 GQ))⟩)
       · refine bI rfl rfl rfl rfl (fun _ k=>Ext.below zT k) ?_
         intro abS amc l6 SC Pm
         have GN:=Ext.below zT l6
         refine Pl.ak ?_
         refine Pl.aS [(false,8,767)] 1023 3 Pl.aD (by kernel_rfl) (by kernel_rfl) (by kernel_rfl) ?_
         refine bI rfl rfl rfl rfl (fun _ k=>Ext.below GN k) ?_
         intro abT ayV xV GQ abU
         have asi:=Ext.below GN xV
         refine Pl.ak ?_
         have AY:=Ib.ext Pm xV
         have sj:=Zn.below KY (Ext.below l6 xV)
         have su:=Zn.below KZ (Ext.below l6 xV)
         exact Pl.bK [(4,.slice none 0 0),(11,.pointer (some ⟨abT,0,none⟩)),(12,.pointer (some ⟨abS,0,none⟩)),(39,yS),(40,yT),(41,(.int .i64 0))] (Pl.aa rfl (Pl.aa rfl (Pl.aa rfl (Pl.aa rfl (Pl.aa rfl (Pl.aa rfl Pl.aK)))))) (l5 _ _ ⟨abT,abS,yS,yT,rfl,(Ext.below oK (Ext.below l6 xV)),(Nat.le_trans (Below.size (Ext.below oK l6)) GQ),abU,(Nat.le_trans (Below.size oK) SC),AY,sj,su,(Nat.ne_of_gt (Nat.lt_of_lt_of_le (Pm).1 GQ))⟩)
     intro abV
     refine Pl.lm 9 263 (fun l' w'=>∃ (Fe:Nat) (Pn:Value),l'=[(4,.slice none 0 0),(11,.pointer (some ⟨Fe,0,none⟩)),(35,.agg #[.bool xP,.slice xg xQ xh]),(37,Pn)]∧Ext w8 w'∧w8.heap.size≤Fe∧Ib w' Fe false (.slice none 0 0)∧Zn w' Pn ((m:Nat):Int)) ?_ ?_
     · rintro _ asj ⟨FJ,ap3,rfl,oL,K3,Cc,K4⟩
       have uS:=oL
       have iH:Sz ((m:Nat):Int) 90:=Sn.sz hlm
       have iH:Sz ((m:Nat):Int) 90:=Sn.sz hlm
       refine Pl.dY [3,9] 8 (by kernel_rfl) (by kernel_rfl) (by kernel_rfl) (Pl.aJ ?_ (Pl.aJ ?_ Pl.aX))
       · have Yv:=Zn.below lg (Ext.below aZ (Ext.below bW (Ext.below cB oL)))
         refine Pl.aA rfl rfl rfl rfl rfl Sy ?_
         refine Calls.mono (AZ _ _ _ ((cf (quo (a%m) m) 1 0).1) ((m:Nat):Int) Yv K4 (Sz.le iU (by decide)) (Sz.le iH (by decide)) (by omega) _ _ rfl rfl) ?_
         rintro e amd ⟨⟨GR,abW,rfl,SE,ame⟩,mO⟩
         have qV:=Ext.below uS mO
         refine ⟨_,rfl,qV,?_⟩
         have amf:Sz ((cf (quo (a%m) m) 1 0).1/((m:Nat):Int)) 90:=Sz.div iU
         have ayW:Sz ((cf (quo (a%m) m) 1 0).1%((m:Nat):Int)) 90:=Sz.mod iH (by omega)
         refine Pl.ak ?_
         refine Pl.aS [(true,4,271),(true,5,287),(true,6,319),(true,7,383),(false,9,511)] 1023 3 Pl.aD (by kernel_rfl) (by kernel_rfl) (by kernel_rfl) ?_
         refine Pl.ah qV rfl rfl rfl rfl rfl ?_
         refine Pl.aB qV rfl rfl rfl rfl rfl rfl ?_
         refine Pl.aB qV rfl rfl rfl rfl rfl rfl ?_
         refine Pl.aB qV rfl rfl rfl rfl rfl rfl ?_
         refine bI rfl rfl rfl rfl (fun _ k=>Ext.below qV k) ?_
         intro asl ayX zU abX asn
         have K5:=Ext.below qV zU
         refine Pl.ak ?_
         have uC:=Ib.ext Cc (Ext.below mO zU)
         have Po:=Zn.below SE zU
         have Pp:=Zn.below ame zU
         exact Pl.bK [(4,.slice none 0 0),(11,.pointer (some ⟨FJ,0,none⟩)),(12,.pointer (some ⟨asl,0,none⟩)),(39,GR),(40,abW),(41,(.int .i64 0))] (Pl.aa rfl (Pl.aa rfl (Pl.aa rfl (Pl.aa rfl (Pl.aa rfl (Pl.aa rfl Pl.aK)))))) (l5 _ _ ⟨FJ,asl,GR,abW,rfl,(Ext.below oL (Ext.below mO zU)),K3,uC,(Nat.le_trans (Below.size (Ext.below oL mO)) abX),asn,Po,Pp,(Nat.ne_of_lt (Nat.lt_of_lt_of_le (Ib.ext Cc mO).1 abX))⟩)
       · refine bI rfl rfl rfl rfl (fun _ k=>Ext.below uS k) ?_
         intro abY amd mO GU abZ
         have qV:=Ext.below uS mO
         refine Pl.ak ?_
         refine Pl.aS [(false,3,775),(true,4,783),(true,5,799),(true,6,831),(true,7,895)] 1023 3 Pl.aD (by kernel_rfl) (by kernel_rfl) (by kernel_rfl) ?_
         have Yw:=Zn.below lg (Ext.below aZ (Ext.below bW (Ext.below cB (Ext.below oL mO))))
         have GV:=Zn.below K4 mO
         refine Pl.aA rfl rfl rfl rfl rfl Sy ?_
         refine Calls.mono (AZ _ _ _ ((cf (quo (a%m) m) 1 0).1) ((m:Nat):Int) Yw GV (Sz.le iU (by decide)) (Sz.le iH (by decide)) (by omega) _ _ rfl rfl) ?_
         rintro e ayX ⟨⟨ab0,ab1,rfl,amg,amh⟩,zU⟩
         have K5:=Ext.below qV zU
         refine ⟨_,rfl,K5,?_⟩
         have ayY:Sz ((cf (quo (a%m) m) 1 0).1/((m:Nat):Int)) 90:=Sz.div iU
         have ayZ:Sz ((cf (quo (a%m) m) 1 0).1%((m:Nat):Int)) 90:=Sz.mod iH (by omega)
         refine Pl.ah K5 rfl rfl rfl rfl rfl ?_
         refine Pl.aB K5 rfl rfl rfl rfl rfl rfl ?_
         refine Pl.aB K5 rfl rfl rfl rfl rfl rfl ?_
         refine Pl.aB K5 rfl rfl rfl rfl rfl rfl ?_
         refine Pl.ak ?_
         have uC:=Ib.ext Cc (Ext.below mO zU)
         have SF:=Ib.ext abZ zU
         exact Pl.bK [(4,.slice none 0 0),(11,.pointer (some ⟨FJ,0,none⟩)),(12,.pointer (some ⟨abY,0,none⟩)),(39,ab0),(40,ab1),(41,(.int .i64 0))] (Pl.aa rfl (Pl.aa rfl (Pl.aa rfl (Pl.aa rfl (Pl.aa rfl (Pl.aa rfl Pl.aK)))))) (l5 _ _ ⟨FJ,abY,ab0,ab1,rfl,(Ext.below oL (Ext.below mO zU)),K3,uC,(Nat.le_trans (Below.size oL) GU),SF,amg,amh,(Nat.ne_of_lt (Nat.lt_of_lt_of_le (Cc).1 GU))⟩)
     intro Pq
     refine Pl.lm 9 519 (fun l' w'=>∃ (Ff:Nat) (Pn:Value),l'=[(4,.slice none 0 0),(12,.pointer (some ⟨Ff,0,none⟩)),(35,.agg #[.bool xP,.slice xg xQ xh]),(37,Pn)]∧Ext w8 w'∧w8.heap.size≤Ff∧Ib w' Ff false (.slice none 0 0)∧Zn w' Pn ((m:Nat):Int)) ?_ ?_
     · rintro _ aso ⟨FK,ap4,rfl,oM,K6,Ce,K7⟩
       have uT:=oM
       have iH:Sz ((m:Nat):Int) 90:=Sn.sz hlm
       have iH:Sz ((m:Nat):Int) 90:=Sn.sz hlm
       refine Pl.dY [3,8] 8 (by kernel_rfl) (by kernel_rfl) (by kernel_rfl) (Pl.aJ ?_ (Pl.aJ ?_ Pl.aX))
       · have Yx:=Zn.below lg (Ext.below aZ (Ext.below bW (Ext.below cB oM)))
         refine Pl.aA rfl rfl rfl rfl rfl Sy ?_
         refine Calls.mono (AZ _ _ _ ((cf (quo (a%m) m) 1 0).1) ((m:Nat):Int) Yx K7 (Sz.le iU (by decide)) (Sz.le iH (by decide)) (by omega) _ _ rfl rfl) ?_
         rintro e ami ⟨⟨GX,ab2,rfl,SG,amj⟩,mR⟩
         have qW:=Ext.below uT mR
         refine ⟨_,rfl,qW,?_⟩
         have amk:Sz ((cf (quo (a%m) m) 1 0).1/((m:Nat):Int)) 90:=Sz.div iU
         have ay0:Sz ((cf (quo (a%m) m) 1 0).1%((m:Nat):Int)) 90:=Sz.mod iH (by omega)
         refine Pl.ak ?_
         refine Pl.aS [(true,4,527),(true,5,543),(true,6,575),(true,7,639),(false,8,767)] 1023 3 Pl.aD (by kernel_rfl) (by kernel_rfl) (by kernel_rfl) ?_
         refine Pl.ah qW rfl rfl rfl rfl rfl ?_
         refine Pl.aB qW rfl rfl rfl rfl rfl rfl ?_
         refine Pl.aB qW rfl rfl rfl rfl rfl rfl ?_
         refine Pl.aB qW rfl rfl rfl rfl rfl rfl ?_
         refine bI rfl rfl rfl rfl (fun _ k=>Ext.below qW k) ?_
         intro asq ay1 zV ab3 asr
         have K8:=Ext.below qW zV
         refine Pl.ak ?_
         have uD:=Ib.ext Ce (Ext.below mR zV)
         have Pt:=Zn.below SG zV
         have Pv:=Zn.below amj zV
         exact Pl.bK [(4,.slice none 0 0),(11,.pointer (some ⟨asq,0,none⟩)),(12,.pointer (some ⟨FK,0,none⟩)),(39,GX),(40,ab2),(41,(.int .i64 0))] (Pl.aa rfl (Pl.aa rfl (Pl.aa rfl (Pl.aa rfl (Pl.aa rfl (Pl.aa rfl Pl.aK)))))) (l5 _ _ ⟨asq,FK,GX,ab2,rfl,(Ext.below oM (Ext.below mR zV)),(Nat.le_trans (Below.size (Ext.below oM mR)) ab3),asr,K6,uD,Pt,Pv,(Nat.ne_of_gt (Nat.lt_of_lt_of_le (Ib.ext Ce mR).1 ab3))⟩)
       · refine bI rfl rfl rfl rfl (fun _ k=>Ext.below uT k) ?_
         intro ab4 ami mR GY ab5
         have qW:=Ext.below uT mR
         refine Pl.ak ?_
         refine Pl.aS [(false,3,775),(true,4,783),(true,5,799),(true,6,831),(true,7,895)] 1023 3 Pl.aD (by kernel_rfl) (by kernel_rfl) (by kernel_rfl) ?_
         have Yy:=Zn.below lg (Ext.below aZ (Ext.below bW (Ext.below cB (Ext.below oM mR))))
         have GZ:=Zn.below K7 mR
         refine Pl.aA rfl rfl rfl rfl rfl Sy ?_
         refine Calls.mono (AZ _ _ _ ((cf (quo (a%m) m) 1 0).1) ((m:Nat):Int) Yy GZ (Sz.le iU (by decide)) (Sz.le iH (by decide)) (by omega) _ _ rfl rfl) ?_
         rintro e ay1 ⟨⟨ab6,ab7,rfl,aml,amm⟩,zV⟩
         have K8:=Ext.below qW zV
         refine ⟨_,rfl,K8,?_⟩
         have ay2:Sz ((cf (quo (a%m) m) 1 0).1/((m:Nat):Int)) 90:=Sz.div iU
         have ay3:Sz ((cf (quo (a%m) m) 1 0).1%((m:Nat):Int)) 90:=Sz.mod iH (by omega)
         refine Pl.ah K8 rfl rfl rfl rfl rfl ?_
         refine Pl.aB K8 rfl rfl rfl rfl rfl rfl ?_
         refine Pl.aB K8 rfl rfl rfl rfl rfl rfl ?_
         refine Pl.aB K8 rfl rfl rfl rfl rfl rfl ?_
         refine Pl.ak ?_
         have SH:=Ib.ext ab5 zV
         have uD:=Ib.ext Ce (Ext.below mR zV)
         exact Pl.bK [(4,.slice none 0 0),(11,.pointer (some ⟨ab4,0,none⟩)),(12,.pointer (some ⟨FK,0,none⟩)),(39,ab6),(40,ab7),(41,(.int .i64 0))] (Pl.aa rfl (Pl.aa rfl (Pl.aa rfl (Pl.aa rfl (Pl.aa rfl (Pl.aa rfl Pl.aK)))))) (l5 _ _ ⟨ab4,FK,ab6,ab7,rfl,(Ext.below oM (Ext.below mR zV)),(Nat.le_trans (Below.size oM) GY),SH,K6,uD,aml,amm,(Nat.ne_of_gt (Nat.lt_of_lt_of_le (Ce).1 GY))⟩)
     intro Px
     refine Pl.lm 10 7 (fun l' w'=>∃ (Pn:Value),l'=[(4,.slice none 0 0),(35,.agg #[.bool xP,.slice xg xQ xh]),(37,Pn)]∧Ext w8 w'∧Zn w' Pn ((m:Nat):Int)) ?_ ?_
     · rintro _ Yi ⟨yU,rfl,jo,DC⟩
       have lZ:=jo
       have iH:Sz ((m:Nat):Int) 90:=Sn.sz hlm
       refine Pl.dY [3,8,9] 9 (by kernel_rfl) (by kernel_rfl) (by kernel_rfl) (Pl.aJ ?_ (Pl.aJ ?_ (Pl.aJ ?_ Pl.aX)))
       · have Yz:=Zn.below lg (Ext.below aZ (Ext.below bW (Ext.below cB jo)))
         refine Pl.aA rfl rfl rfl rfl rfl Sy ?_
         refine Calls.mono (AZ _ _ _ ((cf (quo (a%m) m) 1 0).1) ((m:Nat):Int) Yz DC (Sz.le iU (by decide)) (Sz.le iH (by decide)) (by omega) _ _ rfl rfl) ?_
         rintro e MZ ⟨⟨akc,akd,rfl,ast,asu⟩,jd⟩
         have om:=Ext.below lZ jd
         refine ⟨_,rfl,om,?_⟩
         have asg:Sz ((cf (quo (a%m) m) 1 0).1/((m:Nat):Int)) 90:=Sz.div iU
         have ash:Sz ((cf (quo (a%m) m) 1 0).1%((m:Nat):Int)) 90:=Sz.mod iH (by omega)
         refine Pl.ak ?_
         refine Pl.aS [(true,4,15),(true,5,31),(true,6,63),(true,7,127)] 255 5 Pl.aD (by kernel_rfl) (by kernel_rfl) (by kernel_rfl) ?_
         refine Pl.ah om rfl rfl rfl rfl rfl ?_
         refine Pl.aB om rfl rfl rfl rfl rfl rfl ?_
         refine Pl.aB om rfl rfl rfl rfl rfl rfl ?_
         refine Pl.aB om rfl rfl rfl rfl rfl rfl ?_
         refine Pl.ak ?_
         exact Pl.bK [(4,.slice none 0 0),(39,akc),(40,akd),(41,(.int .i64 0))] (Pl.aa rfl (Pl.aa rfl (Pl.aa rfl (Pl.aa rfl Pl.aK)))) (abV _ _ ⟨akc,akd,rfl,(Ext.below jo jd),ast,asu⟩)
       · refine bI rfl rfl rfl rfl (fun _ k=>Ext.below lZ k) ?_
         intro N62 MZ jd ab8 amn
         have om:=Ext.below lZ jd
         refine Pl.ak ?_
         have sw:=Zn.below DC jd
         exact Pl.bK [(4,.slice none 0 0),(11,.pointer (some ⟨N62,0,none⟩)),(35,.agg #[.bool xP,.slice xg xQ xh]),(37,yU)] (Pl.aa rfl (Pl.aa rfl (Pl.aa rfl (Pl.aa rfl Pl.aK)))) (Pq _ _ ⟨N62,yU,rfl,(Ext.below jo jd),(Nat.le_trans (Below.size jo) ab8),amn,sw⟩)
       · refine bI rfl rfl rfl rfl (fun _ k=>Ext.below lZ k) ?_
         intro N62 MZ jd ab8 amn
         have om:=Ext.below lZ jd
         refine Pl.ak ?_
         have sw:=Zn.below DC jd
         exact Pl.bK [(4,.slice none 0 0),(12,.pointer (some ⟨N62,0,none⟩)),(35,.agg #[.bool xP,.slice xg xQ xh]),(37,yU)] (Pl.aa rfl (Pl.aa rfl (Pl.aa rfl (Pl.aa rfl Pl.aK)))) (Px _ _ ⟨N62,yU,rfl,(Ext.below jo jd),(Nat.le_trans (Below.size jo) ab8),amn,sw⟩)
     intro hK7
     refine Pl.lm 10 259 (fun l' w'=>∃ (Fe:Nat),l'=[(4,.slice none 0 0),(11,.pointer (some ⟨Fe,0,none⟩)),(35,.agg #[.bool xP,.slice xg xQ xh]),(36,tY)]∧Ext w8 w'∧w8.heap.size≤Fe∧Ib w' Fe false (.slice none 0 0)) ?_ ?_
     · rintro _ abG ⟨FL,rfl,lQ,K9,G5⟩
       have BX:=lQ
       refine Pl.dY [2,9] 9 (by kernel_rfl) (by kernel_rfl) (by kernel_rfl) (Pl.aJ ?_ (Pl.aJ ?_ Pl.aX))
       · have G6:=Un.below Dy (Ext.below hB2 (Ext.below aZ (Ext.below bW (Ext.below cB lQ))))
         refine Pl.aA rfl rfl rfl rfl rfl oC ?_
         refine Calls.mono (iO _ _ m G6) ?_
         rintro e alZ ⟨G7,rfl,SI,lS⟩
         have qU:=Ext.below BX lS
         refine ⟨_,rfl,qU,?_⟩
         have ab9:Sz ((m:Nat):Int) 90:=Sn.sz hlm
         refine Pl.ak ?_
         have Ki:=Ib.ext G5 lS
         exact Pl.bK [(4,.slice none 0 0),(11,.pointer (some ⟨FL,0,none⟩)),(35,.agg #[.bool xP,.slice xg xQ xh]),(37,G7)] (Pl.aa rfl (Pl.aa rfl (Pl.aa rfl (Pl.aa rfl Pl.aK)))) (Pq _ _ ⟨FL,G7,rfl,(Ext.below lQ lS),K9,Ki,SI⟩)
       · refine bI rfl rfl rfl rfl (fun _ k=>Ext.below BX k) ?_
         intro asw alZ lS ab' asx
         have qU:=Ext.below BX lS
         refine Pl.ak ?_
         refine Pl.aS [(false,2,771),(false,3,775),(true,4,783),(true,5,799),(true,6,831),(true,7,895)] 1023 3 Pl.aD (by kernel_rfl) (by kernel_rfl) (by kernel_rfl) ?_
         have acd:=Un.below Dy (Ext.below hB2 (Ext.below aZ (Ext.below bW (Ext.below cB (Ext.below lQ lS)))))
         refine Pl.aA rfl rfl rfl rfl rfl oC ?_
         refine Calls.mono (iO _ _ m acd) ?_
         rintro e ahN ⟨SK,rfl,SL,wS⟩
         have tX:=Ext.below qU wS
         refine ⟨_,rfl,tX,?_⟩
         have DD:Sz ((m:Nat):Int) 90:=Sn.sz hlm
         have Dx:=Zn.below lg (Ext.below aZ (Ext.below bW (Ext.below cB (Ext.below lQ (Ext.below lS wS)))))
         refine Pl.aA rfl rfl rfl rfl rfl Sy ?_
         refine Calls.mono (AZ _ _ _ ((cf (quo (a%m) m) 1 0).1) ((m:Nat):Int) Dx SL (Sz.le iU (by decide)) (Sz.le DD (by decide)) (by omega) _ _ rfl rfl) ?_
         rintro e al1 ⟨⟨ace,acf,rfl,amo,amq⟩,KV⟩
         have KW:=Ext.below tX KV
         refine ⟨_,rfl,KW,?_⟩
         have amr:Sz ((cf (quo (a%m) m) 1 0).1/((m:Nat):Int)) 90:=Sz.div iU
         have ams:Sz ((cf (quo (a%m) m) 1 0).1%((m:Nat):Int)) 90:=Sz.mod DD (by omega)
         refine Pl.ah KW rfl rfl rfl rfl rfl ?_
         refine Pl.aB KW rfl rfl rfl rfl rfl rfl ?_
         refine Pl.aB KW rfl rfl rfl rfl rfl rfl ?_
         refine Pl.aB KW rfl rfl rfl rfl rfl rfl ?_
         refine Pl.ak ?_
         have Kj:=Ib.ext G5 (Ext.below lS (Ext.below wS KV))
         have SN:=Ib.ext asx (Ext.below wS KV)
         exact Pl.bK [(4,.slice none 0 0),(11,.pointer (some ⟨FL,0,none⟩)),(12,.pointer (some ⟨asw,0,none⟩)),(39,ace),(40,acf),(41,(.int .i64 0))] (Pl.aa rfl (Pl.aa rfl (Pl.aa rfl (Pl.aa rfl (Pl.aa rfl (Pl.aa rfl Pl.aK)))))) (l5 _ _ ⟨FL,asw,ace,acf,rfl,(Ext.below lQ (Ext.below lS (Ext.below wS KV))),K9,Kj,(Nat.le_trans (Below.size lQ) ab'),SN,amo,amq,(Nat.ne_of_lt (Nat.lt_of_lt_of_le (G5).1 ab'))⟩)
     intro acg
     refine Pl.lm 10 515 (fun l' w'=>∃ (Ff:Nat),l'=[(4,.slice none 0 0),(12,.pointer (some ⟨Ff,0,none⟩)),(35,.agg #[.bool xP,.slice xg xQ xh]),(36,tY)]∧Ext w8 w'∧w8.heap.size≤Ff∧Ib w' Ff false (.slice none 0 0)) ?_ ?_
     · rintro _ asy ⟨FM,rfl,qy,Lc,G8⟩
       have G9:=qy
       refine Pl.dY [2,8] 9 (by kernel_rfl) (by kernel_rfl) (by kernel_rfl) (Pl.aJ ?_ (Pl.aJ ?_ Pl.aX))
       · have He:=Un.below Dy (Ext.below hB2 (Ext.below aZ (Ext.below bW (Ext.below cB qy))))
         refine Pl.aA rfl rfl rfl rfl rfl oC ?_
         refine Calls.mono (iO _ _ m He) ?_
         rintro e asz ⟨Hf,rfl,SQ,sD⟩
         have Ld:=Ext.below G9 sD
         refine ⟨_,rfl,Ld,?_⟩
         have amt:Sz ((m:Nat):Int) 90:=Sn.sz hlm
         refine Pl.ak ?_
         have Kk:=Ib.ext G8 sD
         exact Pl.bK [(4,.slice none 0 0),(12,.pointer (some ⟨FM,0,none⟩)),(35,.agg #[.bool xP,.slice xg xQ xh]),(37,Hf)] (Pl.aa rfl (Pl.aa rfl (Pl.aa rfl (Pl.aa rfl Pl.aK)))) (Px _ _ ⟨FM,Hf,rfl,(Ext.below qy sD),Lc,Kk,SQ⟩)
       · refine bI rfl rfl rfl rfl (fun _ k=>Ext.below G9 k) ?_
         intro asA asz sD ach asB
         have Ld:=Ext.below G9 sD
         refine Pl.ak ?_
         refine Pl.aS [(false,2,771),(false,3,775),(true,4,783),(true,5,799),(true,6,831),(true,7,895)] 1023 3 Pl.aD (by kernel_rfl) (by kernel_rfl) (by kernel_rfl) ?_
         have aci:=Un.below Dy (Ext.below hB2 (Ext.below aZ (Ext.below bW (Ext.below cB (Ext.below qy sD)))))
         refine Pl.aA rfl rfl rfl rfl rfl oC ?_
         refine Calls.mono (iO _ _ m aci) ?_
         rintro e ay5 ⟨SS,rfl,SV,zW⟩
         have Ey:=Ext.below Ld zW
         refine ⟨_,rfl,Ey,?_⟩
         have SX:Sz ((m:Nat):Int) 90:=Sn.sz hlm
         have YA:=Zn.below lg (Ext.below aZ (Ext.below bW (Ext.below cB (Ext.below qy (Ext.below sD zW)))))
         refine Pl.aA rfl rfl rfl rfl rfl Sy ?_
         refine Calls.mono (AZ _ _ _ ((cf (quo (a%m) m) 1 0).1) ((m:Nat):Int) YA SV (Sz.le iU (by decide)) (Sz.le SX (by decide)) (by omega) _ _ rfl rfl) ?_
         rintro e aFK ⟨⟨acj,ack,rfl,amu,amv⟩,VA⟩
         have Py:=Ext.below Ey VA
         refine ⟨_,rfl,Py,?_⟩
         have ay6:Sz ((cf (quo (a%m) m) 1 0).1/((m:Nat):Int)) 90:=Sz.div iU
         have ay7:Sz ((cf (quo (a%m) m) 1 0).1%((m:Nat):Int)) 90:=Sz.mod SX (by omega)
         refine Pl.ah Py rfl rfl rfl rfl rfl ?_
         refine Pl.aB Py rfl rfl rfl rfl rfl rfl ?_
         refine Pl.aB Py rfl rfl rfl rfl rfl rfl ?_
         refine Pl.aB Py rfl rfl rfl rfl rfl rfl ?_
         refine Pl.ak ?_
         have SY:=Ib.ext asB (Ext.below zW VA)
         have Kl:=Ib.ext G8 (Ext.below sD (Ext.below zW VA))
         exact Pl.bK [(4,.slice none 0 0),(11,.pointer (some ⟨asA,0,none⟩)),(12,.pointer (some ⟨FM,0,none⟩)),(39,acj),(40,ack),(41,(.int .i64 0))] (Pl.aa rfl (Pl.aa rfl (Pl.aa rfl (Pl.aa rfl (Pl.aa rfl (Pl.aa rfl Pl.aK)))))) (l5 _ _ ⟨asA,FM,acj,ack,rfl,(Ext.below qy (Ext.below sD (Ext.below zW VA))),(Nat.le_trans (Below.size qy) ach),SY,Lc,Kl,amu,amv,(Nat.ne_of_gt (Nat.lt_of_lt_of_le (G8).1 ach))⟩)
     intro acm
     refine Pl.aS [(true,0,0),(true,1,1)] 3 11 Pl.aD (by kernel_rfl) (by kernel_rfl) (by kernel_rfl) ?_
     have amw:=Ib.ext amb (Ext.below bW cB)
     refine Pl.aR wO rfl rfl rfl rfl rfl (fun X hX=>Ib.load (Ib.ext amw hX)) ?_
     refine Pl.ah wO rfl rfl rfl rfl rfl ?_
     refine Pl.ak ?_
     refine Pl.dY [2,8,9] 10 (by kernel_rfl) (by kernel_rfl) (by kernel_rfl) (Pl.aJ ?_ (Pl.aJ ?_ (Pl.aJ ?_ Pl.aX)))
     · have amx:=Un.below Dy (Ext.below hB2 (Ext.below aZ (Ext.below bW (Ext.below cB eP))))
       refine Pl.aA rfl rfl rfl rfl rfl oC ?_
       refine Calls.mono (iO _ _ m amx) ?_
       rintro e xN ⟨nZ,rfl,rX,bY⟩
       have fP:=Ext.below wO bY
       refine ⟨_,rfl,fP,?_⟩
       have iH:Sz ((m:Nat):Int) 90:=Sn.sz hlm
       refine Pl.ak ?_
       exact Pl.bK [(4,.slice none 0 0),(35,.agg #[.bool xP,.slice xg xQ xh]),(37,nZ)] (Pl.aa rfl (Pl.aa rfl (Pl.aa rfl Pl.aK))) (hK7 _ _ ⟨nZ,rfl,(Ext.below eP bY),rX⟩)
     · refine bI rfl rfl rfl rfl (fun _ k=>Ext.below wO k) ?_
       intro N12 xN bY Gw Si
       have fP:=Ext.below wO bY
       refine Pl.ak ?_
       exact Pl.bK [(4,.slice none 0 0),(11,.pointer (some ⟨N12,0,none⟩)),(35,.agg #[.bool xP,.slice xg xQ xh]),(36,tY)] (Pl.aa rfl (Pl.aa rfl (Pl.aa rfl (Pl.aa rfl Pl.aK)))) (acg _ _ ⟨N12,rfl,(Ext.below eP bY),(Nat.le_trans (Below.size eP) Gw),Si⟩)
     · refine bI rfl rfl rfl rfl (fun _ k=>Ext.below wO k) ?_
       intro N12 xN bY Gw Si
       have fP:=Ext.below wO bY
       refine Pl.ak ?_
       exact Pl.bK [(4,.slice none 0 0),(12,.pointer (some ⟨N12,0,none⟩)),(35,.agg #[.bool xP,.slice xg xQ xh]),(36,tY)] (Pl.aa rfl (Pl.aa rfl (Pl.aa rfl (Pl.aa rfl Pl.aK)))) (acm _ _ ⟨N12,rfl,(Ext.below eP bY),(Nat.le_trans (Below.size eP) Gw),Si⟩)
   rintro _ ay8 ⟨awS,awT,ap5,ap6,rfl,VB,DF,acn,DI,aco,Le,YB,sF⟩
   have Pz:=VB
   have DD:Sz ((m:Nat):Int) 90:=Sn.sz hlm
   have amr:Sz ((cf (quo (a%m) m) 1 0).1/((m:Nat):Int)) 90:=Sz.div iU
   have ams:Sz ((cf (quo (a%m) m) 1 0).1%((m:Nat):Int)) 90:=Sz.mod DD (by omega)
   refine Pl.aS [(false,10,1023),(false,11,2047),(true,12,4095)] 8191 0 Pl.aD (by kernel_rfl) (by kernel_rfl) (by kernel_rfl) ?_
   obtain ⟨ap7,ap8,ap9,ap',rfl⟩:=Zn.sh Le
   refine iP rfl rfl rfl rfl rfl rfl acn (fun _ T=>T _ Pz (Nat.le_trans (Below.size (Ext.refl w8)) DF)) ?_
   intro ay9 Hg Hl S9 acp
   have acr:=Hg _ VB (Nat.le_trans (Below.size (Ext.refl w8)) DF)
   have VC:=Hg _ Pz (Nat.le_trans (Below.size (Ext.refl w8)) DF)
   have Km:=S9 _ _ _ (Ne.symm sF) aco
   have Ho:=Hl _ _ Le
   have xW:=Hl _ _ YB
   obtain ⟨aqa,aqb,aqc,aqd,rfl⟩:=Zn.sh xW
   refine iP rfl rfl rfl rfl rfl rfl Km (fun _ T=>T _ VC (Nat.le_trans (Below.size (Ext.refl w8)) DI)) ?_
   intro aFL acs acu amy asC
   have asD:=acs _ acr (Nat.le_trans (Below.size (Ext.refl w8)) DI)
   have asE:=acs _ VC (Nat.le_trans (Below.size (Ext.refl w8)) DI)
   have acv:=acu _ _ Ho
   have amz:=amy _ _ _ sF acp
   have Hq:=acu _ _ xW
   refine Pl.aj asE rfl rfl rfl rfl rfl ?_
   refine Pl.ak ?_
   refine Pl.G_V (by kernel_rfl) ?_
   refine Pl.az ?_
   refine Pl.ay (by kernel_rfl) ?_
   refine bg trivial rfl rfl rfl rfl rfl (M6 _) ?_
   refine Pl.aH trivial rfl rfl rfl rfl rfl (Ib.mag asC) ?_
   have Hr:=Zn.mag Hq
   refine Pl.aj trivial rfl rfl rfl rfl rfl ?_
   refine Pl.aj trivial rfl rfl rfl rfl rfl ?_
   refine Pl.ak ?_
   refine Pl.iV rfl rfl rfl ?_
   exact ⟨.inr ⟨hg,_,rfl,Hr⟩,(Ext.below hB1 (Ext.below hB2 (Ext.below aZ (Ext.below bW (Ext.below cB asD)))))⟩
 · refine Pl.ay (by kernel_rfl) ?_
   refine Pl.ah trivial rfl rfl rfl rfl rfl ?_
   refine cO (n:=1) (by decide) rfl rfl rfl rfl rfl (fun _ _=>trivial) ?_
   intro Vz w7 bW vX
   have Ca:=U.one vX
   have BV:=Un.below kZ (Ext.below aZ bW)
   refine Pl.aA rfl rfl rfl rfl rfl ase ?_
   refine Calls.mono (SB _ _ _ (Nat.gcd (a%m) m) 1 BV Ca (Sn.le lK (by decide)) hg) ?_
   rintro e w8 ⟨rfl,cB⟩
   refine ⟨_,rfl,trivial,?_⟩
   refine Pl.nY (v:=(.bool true)) trivial rfl rfl rfl rfl rfl (fun X=>rfl) ?_
   refine Pl.ak ?_
   refine Pl.dh rfl ?_
   refine Pl.az ?_
   refine Pl.ay (by kernel_rfl) ?_
   refine Pl.aj trivial rfl rfl rfl rfl rfl ?_
   refine Pl.aj trivial rfl rfl rfl rfl rfl ?_
   refine Pl.ak ?_
   refine Pl.iV rfl rfl rfl ?_
   exact ⟨.inl ⟨hg,rfl⟩,(Ext.below hB1 (Ext.below hB2 (Ext.below aZ (Ext.below bW cB))))⟩
theorem DJ (w:World) (jm tY:Value) (a m:Nat) (bn:Un w jm a) (qb:Un w tY m) (hla:Sn a 90) (hlm:Sn m 90) (hm0:m≠0) (hg:Nat.gcd (a%m) m≠1) :
  Calls Tryz.prog 24 #[jm,tY] w fun e w'=>e = .returned (.tuple #[.slice none 0 0,.int .i64 4])∧Ext w w' :=
 (KX w jm tY a m bn qb hla hlm hm0).mono fun e w' h=>h.1.elim (fun k=>⟨k.2,h.2⟩) fun k=>absurd k.1 hg
theorem jO (w:World) (jm tY:Value) (a m:Nat) (bn:Un w jm a) (qb:Un w tY m) (hla:Sn a 90) (hlm:Sn m 90) (hm0:m≠0) (hg:Nat.gcd (a%m) m=1) :
  Calls Tryz.prog 24 #[jm,tY] w fun e w'=>∃ z,e = .returned (.tuple #[z,.int .i64 0])∧Un w' z ((cf (quo (a%m) m) 1 0).1%(m:Int)).natAbs∧Ext w w' :=
 (KX w jm tY a m bn qb hla hlm hm0).mono fun e w' h=>h.1.elim (fun k=>absurd hg k.1) fun k=>k.2.elim fun z hz=>⟨z,hz.1,hz.2,h.2⟩
end Go.Proofs.YtnilonnkcbkdmaaGreatDoor
