/- The law's live questions, whose answers are fixed. -/
import Derived.Test.YtnilonnkcbkdmaaGreatDoorBbh
import Derived.Test.YtnilonnkcbkdmaaGreatDoorBbj
import Derived.Test.YtnilonnkcbkdmaaGreatDoorBbb
import Derived.Test.YtnilonnkcbkdmaaGreatDoorBai
import Derived.Test.YtnilonnkcbkdmaaGreatDoorBas
import Derived.Deep.RegionHeld3

namespace Go.Proofs.YtnilonnkcbkdmaaGreatDoor
open Go.RowKit
set_option linter.all false
set_option maxRecDepth 100000
set_option maxHeartbeats 8000000
namespace EGO
set_option linter.all false
set_option maxRecDepth 100000
set_option maxHeartbeats 8000000
theorem Pj (u:Array Value) (X:World):(callFunc 15 u).run Tryz.prog X = .ok (.enter 15 u) X:=Pl.enters Tryz.func15 (by kernel_rfl) rfl u X
theorem YF (u:Array Value) (X:World):(callFunc 17 u).run Tryz.prog X = .ok (.enter 17 u) X:=Pl.enters Tryz.func17 (by kernel_rfl) rfl u X
theorem gT (u:Array Value) (X:World):(callFunc 19 u).run Tryz.prog X = .ok (.enter 19 u) X:=Pl.enters Tryz.func19 (by kernel_rfl) rfl u X
theorem yf (u:Array Value) (X:World):(callFunc 20 u).run Tryz.prog X = .ok (.enter 20 u) X:=Pl.enters Tryz.func20 (by kernel_rfl) rfl u X
theorem Ic (u:Array Value) (X:World):(callFunc 21 u).run Tryz.prog X = .ok (.enter 21 u) X:=Pl.enters Tryz.func21 (by kernel_rfl) rfl u X
theorem DW (u:Array Value) (X:World):(callFunc 22 u).run Tryz.prog X = .ok (.enter 22 u) X:=Pl.enters Tryz.func22 (by kernel_rfl) rfl u X
theorem Nc (u:Array Value) (X:World):(callFunc 23 u).run Tryz.prog X = .ok (.enter 23 u) X:=Pl.enters Tryz.func23 (by kernel_rfl) rfl u X
theorem rG (u:Array Value) (X:World):(callFunc 24 u).run Tryz.prog X = .ok (.enter 24 u) X:=Pl.enters Tryz.func24 (by kernel_rfl) rfl u X
theorem uG (u:Array Value) (X:World):(callFunc 26 u).run Tryz.prog X = .ok (.enter 26 u) X:=Pl.enters Tryz.func26 (by kernel_rfl) rfl u X
theorem aic (u:Array Value) (X:World):(callFunc 40 u).run Tryz.prog X = .ok (.enter 40 u) X:=Pl.enters Tryz.func40 (by kernel_rfl) rfl u X
end EGO
open EGO
theorem U.kV {w:World} {v:Value} {k:Nat} (h0:k≠0) (h:k<4294967296) (hu:U w v [k]):Un w v k:=by
 show U w _ (limbs k)
 have e:limbs k=[k]:=by rw [eG h0,Nat.mod_eq_of_lt h,Nat.div_eq_of_lt h,bf]
 rw [e];exact hu
theorem Nf (N n c j:Nat) (h:j<n) (X:World):(Instr.indexAt 30 (.slice (some ⟨N,0,none⟩) n c) (.int .i64 (j:Int))).run Tryz.prog X = .ok (.pointer (some ⟨N,j,none⟩)) X:=by
 have h1:(j:Int)<(n:Int):=by omega
 have h0:(0:Int)≤(j:Int):=by omega
 have e:(⟨N,0,none⟩:Addr).add j=⟨N,j,none⟩:=by rw [Addr.add_mid,Nat.zero_add]
 go_simp
theorem Gr.wP {ok:Value→Prop} {w:World} {base n g cap j k q:Nat} {A:Option Addr} {xs:List Value} (h:Pl.Gr ok w base 22 1 (.slice (some ⟨g,0,none⟩) n cap) n xs) (hj:xs[j]?=some (.slice A k q)) :
  (Instr.loadAt 22 (.pointer (some ⟨g,j,none⟩))).run Tryz.prog w = .ok (.slice A k q) w:=by
 have hc:w.cell? ⟨g,j,none⟩=some (.slice A k q):=by
  rcases h.2 with ⟨h1,_⟩ | ⟨g',cap',cur,h1,hb,hgg,_,_,_,hx,_⟩
  · cases h1
  · cases h1
    rw [← hx,List.getElem?_take] at hj
    split at hj
    · unfold World.cell?
      rw [hgg]
      simpa using hj
    · cases hj
 clear h hj
 go_simp
theorem ac4:quo 12 18=[0,1,2]:=by simp [fH,eY]
theorem am8:quo 3 7=[0,2,3]:=by simp [fH,eY]
theorem ac5 (w:World) (va vb:Value) (ha:Un w va 12) (hb:Un w vb 18):Calls Tryz.prog 15 #[va,vb] w fun e w'=>∃ g u v,e = .returned (.tuple #[g,u,v])∧Un w' g 6∧Zn w' u (-1)∧Zn w' v 1∧Ext w w':=by
 refine (tK w va vb 12 18 ha hb (Sn.small (by decide)) (Sn.small (by decide)) (by decide)).mono fun e w' h=>?_
 rw [ac4] at h
 exact h
theorem aid (w:World) (va vb:Value) (ha:Un w va 12) (hb:Un w vb 0):Calls Tryz.prog 15 #[va,vb] w fun e w'=>∃ g u v,e = .returned (.tuple #[g,u,v])∧Un w' g 12∧Zn w' u 1∧Zn w' v 0∧Ext w w':=by
 refine (xO w va vb 12 0 ha hb (Sn.small (by decide)) Sn.zero rfl).mono fun e w' h=>?_
 rw [eY] at h
 exact h
theorem ac6 (w:World) (va vb:Value) (ha:Un w va 12) (hb:Un w vb 18):Calls Tryz.prog 17 #[va,vb] w fun e w'=>∃ g cap base A0 c0 A1 c1 A2 c2,e = .returned (.slice (some ⟨g,0,none⟩) 3 cap) ∧
  Pl.Gr dQ w' base 22 1 (.slice (some ⟨g,0,none⟩) 3 cap) 3 [.slice A0 (limbs 0).length c0,.slice A1 (limbs 1).length c1,.slice A2 (limbs 2).length c2]∧Un w' (.slice A0 (limbs 0).length c0) 0∧Un w' (.slice A1 (limbs 1).length c1) 1∧Un w' (.slice A2 (limbs 2).length c2) 2∧Ext w w':=by
 refine (tJ w va vb 12 18 ha hb (Sn.small (by decide)) (Sn.small (by decide))).mono fun e w' h=>?_
 obtain ⟨v,base,xs,rfl,hG,hQ,hE⟩:=h
 rw [ac4] at hG hQ
 obtain ⟨g,cap,rfl,-⟩:=Gr.shape hG (by decide)
 match xs,hQ with
 | [v0,v1,v2],⟨h0,h1,h2,_⟩ =>
  obtain ⟨A0,c0,rfl,-⟩:=Un.sh h0
  obtain ⟨A1,c1,rfl,-⟩:=Un.sh h1
  obtain ⟨A2,c2,rfl,-⟩:=Un.sh h2
  exact ⟨g,cap,base,A0,c0,A1,c1,A2,c2,rfl,hG,h0,h1,h2,hE⟩
theorem YG (w:World) (va vb:Value) (ha:Un w va 12) (hb:Un w vb 0):Calls Tryz.prog 17 #[va,vb] w fun e w'=>∃ A c,e = .returned (.slice A 0 c)∧Ext w w':=by
 refine (tJ w va vb 12 0 ha hb (Sn.small (by decide)) Sn.zero).mono fun e w' h=>?_
 obtain ⟨v,base,xs,rfl,hG,hQ,hE⟩:=h
 rw [eY] at hG
 obtain ⟨A,c,rfl⟩:=Gr.sh hG
 exact ⟨A,c,rfl,hE⟩
theorem aie (w:World) (va vb:Value) (ha:Un w va 3) (hb:Un w vb 7):Calls Tryz.prog 24 #[va,vb] w fun e w'=>∃ z,e = .returned (.tuple #[z,.int .i64 0])∧Un w' z 5∧Ext w w':=by
 refine (jO w va vb 3 7 ha hb (Sn.small (by decide)) (Sn.small (by decide)) (by decide) (by decide)).mono fun e w' h=>?_
 rw [show 3%7=3 from rfl,am8] at h
 exact h
theorem aif (w:World) (va vb:Value) (ha:Un w va 12) (hb:Un w vb 1):Calls Tryz.prog 24 #[va,vb] w fun e w'=>∃ z,e = .returned (.tuple #[z,.int .i64 0])∧Un w' z 0∧Ext w w':=by
 refine (jO w va vb 12 1 ha hb (Sn.small (by decide)) (Sn.small (by decide)) (by decide) (by decide)).mono fun e w' h=>?_
 rw [show ((1:Nat):Int)=1 from rfl,Int.emod_one] at h
 exact h
theorem ac7 (w:World) (va ve vm:Value) (a e m r:Nat) (ha:Un w va a) (he:Un w ve e) (hm:Un w vm m) (hla:Sn a 100) (hle:Sn e 100) (hlm:Sn m 100) (h0:m≠0) (hr:a^e%m=r):Calls Tryz.prog 26 #[va,ve,vm] w fun en w'=>∃ z,en = .returned (.tuple #[z,.int .i64 0])∧Un w' z r∧Ext w w':=by
 subst hr;exact jF w va ve vm a e m ha he hm hla hle hlm h0
theorem yg {f:FuncId} {vs:Array Value} {w:World} {n r:Nat} (h:Calls Tryz.prog f vs w fun e w'=>∃ z,e = .returned z∧Un w' z n∧Ext w w') (hr:n=r):Calls Tryz.prog f vs w fun e w'=>∃ z,e = .returned z∧Un w' z r∧Ext w w':=by subst hr;exact h
theorem pK (w:World)  :
  Calls Tryz.prog 12 #[] w fun e w'=>e = .returned (.bool true)∧Ext w w':=by
 refine Pl.aV (n:=223) (vs:=[]) Tryz.func12 rfl (by kernel_rfl) (by simp) ?_
 refine Pl.az ?_
 refine Pl.ay (by kernel_rfl) ?_
 refine Pl.aj trivial rfl rfl rfl rfl rfl ?_
 refine Pl.ak ?_
 refine Pl.az ?_
 refine Pl.ay (by kernel_rfl) ?_
 refine cO (n:=12) (by decide) rfl rfl rfl rfl rfl (fun _ _=>trivial) ?_
 intro Ko w1 hB1 ac8
 have am9:=U.kV (by decide) (by decide) ac8
 refine cO (n:=18) (by decide) rfl rfl rfl rfl rfl (fun _ _=>trivial) ?_
 intro Nh w2 hB2 as8
 have azs:=U.kV (by decide) (by decide) as8
 refine cO (n:=1) (by decide) rfl rfl rfl rfl rfl (fun _ _=>trivial) ?_
 intro Ni w3 hB3 as9
 have azt:=U.kV (by decide) (by decide) as9
 refine Pl.aj trivial rfl rfl rfl rfl rfl ?_
 refine Pl.aj trivial rfl rfl rfl rfl rfl ?_
 refine Pl.aj trivial rfl rfl rfl rfl rfl ?_
 refine Pl.ak ?_
 refine Pl.az ?_
 refine Pl.ay (by kernel_rfl) ?_
 refine Pl.ah trivial rfl rfl rfl rfl rfl ?_
 refine Pl.ah trivial rfl rfl rfl rfl rfl ?_
 have Wp:=Un.below am9 (Ext.below hB2 hB3)
 have Wq:=Un.below azs hB3
 refine Pl.aA rfl rfl rfl rfl rfl Pj ?_
 refine Calls.mono (ac5 _ _ _ Wp Wq) ?_
 rintro e w4 ⟨nQ,Nj,azu,rfl,tq,xu,aih,hB4⟩
 refine ⟨_,rfl,trivial,?_⟩
 refine Pl.ah trivial rfl rfl rfl rfl rfl ?_
 refine Pl.aB trivial rfl rfl rfl rfl rfl rfl ?_
 refine Pl.aB trivial rfl rfl rfl rfl rfl rfl ?_
 refine Pl.aB trivial rfl rfl rfl rfl rfl rfl ?_
 refine bI rfl rfl rfl rfl (fun _ _=>trivial) ?_
 intro N9 w5 bH ac9 i_9
 refine bI rfl rfl rfl rfl (fun _ _=>trivial) ?_
 intro MV w6 aZ BU MW
 refine Pl.aj trivial rfl rfl rfl rfl rfl ?_
 obtain ⟨azv,azw,azx,azy,rfl⟩:=Zn.sh xu
 have anb:=Ib.ext i_9 aZ
 refine iP rfl rfl rfl rfl rfl rfl anb (fun _ _=>trivial) ?_
 intro w7 anc azz ane I_7
 have bW:=anc _ (Ext.below bH aZ) (Nat.le_trans (Below.size (Ext.refl w4)) ac9)
 have Nk:=ane _ _ _ (Nat.ne_of_gt (Nat.lt_of_lt_of_le (Ib.ext i_9 (Ext.refl w5)).1 BU)) MW
 obtain ⟨aF2,aF3,aF4,aF5,rfl⟩:=Zn.sh aih
 refine iP rfl rfl rfl rfl rfl rfl Nk (fun _ _=>trivial) ?_
 intro w8 ac' ata ada I_8
 have cB:=ac' _ bW (Nat.le_trans (Below.size bH) BU)
 have Nq:=ada _ _ _ (Nat.ne_of_lt (Nat.lt_of_lt_of_le (Ib.ext i_9 (Ext.refl w5)).1 BU)) I_7
 refine Pl.ak ?_
 refine Pl.az ?_
 refine Pl.ay (by kernel_rfl) ?_
 refine Pl.ah trivial rfl rfl rfl rfl rfl ?_
 have Ws:=Un.below Wp (Ext.below hB4 cB)
 refine Pl.aA rfl rfl rfl rfl rfl Pj ?_
 refine Calls.mono (aid _ _ _ Ws (Un.nil _ _ _)) ?_
 rintro e w9 ⟨nZ,Gx,zP,rfl,rX,qx,pI,eP⟩
 refine ⟨_,rfl,trivial,?_⟩
 refine Pl.ah trivial rfl rfl rfl rfl rfl ?_
 refine Pl.aB trivial rfl rfl rfl rfl rfl rfl ?_
 refine Pl.aB trivial rfl rfl rfl rfl rfl rfl ?_
 refine Pl.aB trivial rfl rfl rfl rfl rfl rfl ?_
 refine bI rfl rfl rfl rfl (fun _ _=>trivial) ?_
 intro Sc xN bY Pf Sd
 refine bI rfl rfl rfl rfl (fun _ _=>trivial) ?_
 intro N17 AU bX adb azB
 refine Pl.aj trivial rfl rfl rfl rfl rfl ?_
 obtain ⟨atb,atc,atd,ate,rfl⟩:=Zn.sh qx
 have ade:=Ib.ext Sd bX
 refine iP rfl rfl rfl rfl rfl rfl ade (fun _ _=>trivial) ?_
 intro Kq atf aCI atg azC
 have eO:=atf _ (Ext.below bY bX) (Nat.le_trans (Below.size (Ext.refl w9)) Pf)
 have adf:=atg _ _ _ (Nat.ne_of_gt (Nat.lt_of_lt_of_le (Ib.ext Sd (Ext.refl xN)).1 adb)) azB
 obtain ⟨ath,ati,atj,atl,rfl⟩:=Zn.sh pI
 refine iP rfl rfl rfl rfl rfl rfl adf (fun _ _=>trivial) ?_
 intro JZ adg atm adh anf
 have dP:=adg _ eO (Nat.le_trans (Below.size bY) adb)
 have adi:=adh _ _ _ (Nat.ne_of_lt (Nat.lt_of_lt_of_le (Ib.ext Sd (Ext.refl xN)).1 adb)) azC
 refine Pl.ak ?_
 refine Pl.az ?_
 refine Pl.ay (by kernel_rfl) ?_
 refine Pl.ah trivial rfl rfl rfl rfl rfl ?_
 refine Pl.ah trivial rfl rfl rfl rfl rfl ?_
 have PI:=Un.below Ws (Ext.below eP dP)
 have PK:=Un.below Wq (Ext.below hB4 (Ext.below cB (Ext.below eP dP)))
 refine Pl.aA rfl rfl rfl rfl rfl YF ?_
 refine Calls.mono (ac6 _ _ _ PI PK) ?_
 rintro e Ie ⟨yh,qc,adj,aCJ,aCK,aCL,aCM,adk,Wu,rfl,DX,Wv,adl,Ig,dO⟩
 refine ⟨_,rfl,trivial,?_⟩
 refine Pl.aj trivial rfl rfl rfl rfl rfl ?_
 refine Pl.ak ?_
 refine Pl.az ?_
 refine Pl.ay (by kernel_rfl) ?_
 refine cO (n:=3) (by decide) rfl rfl rfl rfl rfl (fun _ _=>trivial) ?_
 intro atn EA dX Tn
 have adm:=U.kV (by decide) (by decide) Tn
 refine cO (n:=7) (by decide) rfl rfl rfl rfl rfl (fun _ _=>trivial) ?_
 intro aCN w16 iF ang
 have ato:=U.kV (by decide) (by decide) ang
 have YH:=Un.below adm iF
 refine Pl.aA rfl rfl rfl rfl rfl rG ?_
 refine Calls.mono (aie _ _ _ YH ato) ?_
 rintro e Ww ⟨zX,rfl,adn,fU⟩
 refine ⟨_,rfl,trivial,?_⟩
 refine Pl.ah trivial rfl rfl rfl rfl rfl ?_
 refine Pl.aB trivial rfl rfl rfl rfl rfl rfl ?_
 refine Pl.aB trivial rfl rfl rfl rfl rfl rfl ?_
 refine Pl.aj trivial rfl rfl rfl rfl rfl ?_
 refine Pl.aj trivial rfl rfl rfl rfl rfl ?_
 refine Pl.ak ?_
 refine Pl.az ?_
 refine Pl.ay (by kernel_rfl) ?_
 refine cO (n:=2) (by decide) rfl rfl rfl rfl rfl (fun _ _=>trivial) ?_
 intro aCO w18 iQ ani
 have atp:=U.kV (by decide) (by decide) ani
 refine cO (n:=4) (by decide) rfl rfl rfl rfl rfl (fun _ _=>trivial) ?_
 intro aCP w19 je anj
 have atr:=U.kV (by decide) (by decide) anj
 have YI:=Un.below atp je
 refine Pl.aA rfl rfl rfl rfl rfl rG ?_
 refine Calls.mono (DJ _ _ _ 2 4 YI atr (Sn.small (by decide)) (Sn.small (by decide)) (by decide) (by decide)) ?_
 rintro e w20 ⟨rfl,jL⟩
 refine ⟨_,rfl,trivial,?_⟩
 refine Pl.ah trivial rfl rfl rfl rfl rfl ?_
 refine Pl.aB trivial rfl rfl rfl rfl rfl rfl ?_
 refine Pl.aB trivial rfl rfl rfl rfl rfl rfl ?_
 refine Pl.aj trivial rfl rfl rfl rfl rfl ?_
 refine Pl.aj trivial rfl rfl rfl rfl rfl ?_
 refine Pl.ak ?_
 refine Pl.az ?_
 refine Pl.ay (by kernel_rfl) ?_
 refine Pl.ah trivial rfl rfl rfl rfl rfl ?_
 have PL:=Un.below azt (Ext.below hB4 (Ext.below cB (Ext.below eP (Ext.below dP (Ext.below dO (Ext.below dX (Ext.below iF (Ext.below fU (Ext.below iQ (Ext.below je jL))))))))))
 refine Pl.aA rfl rfl rfl rfl rfl rG ?_
 refine Calls.mono (uO _ _ _ 1 0 PL (Un.nil _ _ _) (Sn.small (by decide)) Sn.zero rfl) ?_
 rintro e w21 ⟨rfl,jM⟩
 refine ⟨_,rfl,trivial,?_⟩
 refine Pl.ah trivial rfl rfl rfl rfl rfl ?_
 refine Pl.aB trivial rfl rfl rfl rfl rfl rfl ?_
 refine Pl.aB trivial rfl rfl rfl rfl rfl rfl ?_
 refine Pl.aj trivial rfl rfl rfl rfl rfl ?_
 refine Pl.aj trivial rfl rfl rfl rfl rfl ?_
 refine Pl.ak ?_
 refine Pl.az ?_
 refine Pl.ay (by kernel_rfl) ?_
 refine Pl.ah trivial rfl rfl rfl rfl rfl ?_
 refine Pl.ah trivial rfl rfl rfl rfl rfl ?_
 have PM:=Un.below PI (Ext.below dO (Ext.below dX (Ext.below iF (Ext.below fU (Ext.below iQ (Ext.below je (Ext.below jL jM)))))))
 have PN:=Un.below PL jM
 refine Pl.aA rfl rfl rfl rfl rfl rG ?_
 refine Calls.mono (aif _ _ _ PM PN) ?_
 rintro e w22 ⟨Co,rfl,att,jT⟩
 refine ⟨_,rfl,trivial,?_⟩
 refine Pl.ah trivial rfl rfl rfl rfl rfl ?_
 refine Pl.aB trivial rfl rfl rfl rfl rfl rfl ?_
 refine Pl.aB trivial rfl rfl rfl rfl rfl rfl ?_
 refine Pl.aj trivial rfl rfl rfl rfl rfl ?_
 refine Pl.aj trivial rfl rfl rfl rfl rfl ?_
 refine Pl.ak ?_
 refine Pl.az ?_
 refine Pl.ay (by kernel_rfl) ?_
 refine cO (n:=2) (by decide) rfl rfl rfl rfl rfl (fun _ _=>trivial) ?_
 intro aCT w23 jC ank
 have atu:=U.kV (by decide) (by decide) ank
 refine cO (n:=10) (by decide) rfl rfl rfl rfl rfl (fun _ _=>trivial) ?_
 intro aCV w24 kJ anl
 have atv:=U.kV (by decide) (by decide) anl
 refine cO (n:=1000) (by decide) rfl rfl rfl rfl rfl (fun _ _=>trivial) ?_
 intro aCX w25 lu anm
 have atw:=U.kV (by decide) (by decide) anm
 have YJ:=Un.below atu (Ext.below kJ lu)
 have YK:=Un.below atv lu
 refine Pl.aA rfl rfl rfl rfl rfl uG ?_
 refine Calls.mono (ac7 _ _ _ _ 2 10 1000 24 YJ YK atw (Sn.small (by decide)) (Sn.small (by decide)) (Sn.small (by decide)) (by decide) (by decide)) ?_
 rintro e w26 ⟨Cq,rfl,atx,nR⟩
 refine ⟨_,rfl,trivial,?_⟩
 refine Pl.ah trivial rfl rfl rfl rfl rfl ?_
 refine Pl.aB trivial rfl rfl rfl rfl rfl rfl ?_
 refine Pl.aB trivial rfl rfl rfl rfl rfl rfl ?_
 refine Pl.aj trivial rfl rfl rfl rfl rfl ?_
 refine Pl.aj trivial rfl rfl rfl rfl rfl ?_
 refine Pl.ak ?_
 refine Pl.az ?_
 refine Pl.ay (by kernel_rfl) ?_
 refine cO (n:=5) (by decide) rfl rfl rfl rfl rfl (fun _ _=>trivial) ?_
 intro aC0 w27 oO ann
 have aty:=U.kV (by decide) (by decide) ann
 refine Pl.aA rfl rfl rfl rfl rfl uG ?_
 refine Calls.mono (ac7 _ _ _ _ 0 0 5 1 (Un.nil _ _ _) (Un.nil _ _ _) aty Sn.zero Sn.zero (Sn.small (by decide)) (by decide) (by decide)) ?_
 rintro e w28 ⟨zY,rfl,ado,pV⟩
 refine ⟨_,rfl,trivial,?_⟩
 refine Pl.ah trivial rfl rfl rfl rfl rfl ?_
 refine Pl.aB trivial rfl rfl rfl rfl rfl rfl ?_
 refine Pl.aB trivial rfl rfl rfl rfl rfl rfl ?_
 refine Pl.aj trivial rfl rfl rfl rfl rfl ?_
 refine Pl.aj trivial rfl rfl rfl rfl rfl ?_
 refine Pl.ak ?_
 refine Pl.az ?_
 refine Pl.ay (by kernel_rfl) ?_
 refine Pl.ah trivial rfl rfl rfl rfl rfl ?_
 refine Pl.ah trivial rfl rfl rfl rfl rfl ?_
 have qz:=Un.below PM (Ext.below jT (Ext.below jC (Ext.below kJ (Ext.below lu (Ext.below nR (Ext.below oO pV))))))
 have qA:=Un.below PK (Ext.below dO (Ext.below dX (Ext.below iF (Ext.below fU (Ext.below iQ (Ext.below je (Ext.below jL (Ext.below jM (Ext.below jT (Ext.below jC (Ext.below kJ (Ext.below lu (Ext.below nR (Ext.below oO pV))))))))))))))
 refine Pl.aA rfl rfl rfl rfl rfl uG ?_
 refine Calls.mono (Ph _ _ _ _ 12 18 0 qz qA (Un.nil _ _ _) (Sn.small (by decide)) (Sn.small (by decide)) Sn.zero rfl) ?_
 rintro e w29 ⟨rfl,lC⟩
 refine ⟨_,rfl,trivial,?_⟩
 refine Pl.ah trivial rfl rfl rfl rfl rfl ?_
 refine Pl.aB trivial rfl rfl rfl rfl rfl rfl ?_
 refine Pl.aB trivial rfl rfl rfl rfl rfl rfl ?_
 refine Pl.aj trivial rfl rfl rfl rfl rfl ?_
 refine Pl.aj trivial rfl rfl rfl rfl rfl ?_
 refine Pl.ak ?_
 refine Pl.az ?_
 refine Pl.az ?_
 refine Pl.ay (by kernel_rfl) ?_
 refine Pl.ah trivial rfl rfl rfl rfl rfl ?_
 refine nN trivial rfl rfl rfl rfl rfl ?_
 refine Pl.aI (v:=(.bool false)) trivial rfl rfl rfl rfl rfl rfl (fun X=>by go_simp) ?_
 refine Pl.ak ?_
 refine Pl.bD rfl ?_
 refine Pl.bN ?_
 refine Pl.az ?_
 refine Pl.nK (S:=fun X=>Ext w29 X) fo (Ext.drew (Ext.refl _)) ?_
 generalize w29.drew=w30
 intro oF
 have YL:=oF
 refine Pl.aS [(true,0,0),(true,1,1)] 3 134 Pl.aD (by kernel_rfl) (by kernel_rfl) (by kernel_rfl) ?_
 refine Pl.ah YL rfl rfl rfl rfl rfl ?_
 refine Pl.ah YL rfl rfl rfl rfl rfl ?_
 refine Pl.ak ?_
 refine Pl.lm 132 15 (fun l' w'=>∃ (atz:Value) (atA:Value),l'=[(0,(.bool false)),(1,.slice Ko 1 1),(2,.slice Nh 1 1),(3,.slice Ni 1 1),(4,nQ),(5,.pointer (some ⟨N9,0,none⟩)),(6,.pointer (some ⟨MV,0,none⟩)),(7,nZ),(8,.pointer (some ⟨Sc,0,none⟩)),(9,.pointer (some ⟨N17,0,none⟩)),(10,.slice (some ⟨yh,0,none⟩) 3 qc),(11,zX),(12,(.int .i64 0)),(14,(.int .i64 4)),(16,(.int .i64 4)),(17,Co),(18,(.int .i64 0)),(19,Cq),(20,(.int .i64 0)),(21,zY),(22,(.int .i64 0)),(24,(.int .i64 3)),(90,atz),(91,atA)]∧Ext w30 w'∧Un w' atz 6∧Un w' atA 6) ?_ ?_
 rotate_left
 · intro hK
   refine Pl.dY [2,3] 133 (by kernel_rfl) (by kernel_rfl) (by kernel_rfl) (Pl.aJ ?_ (Pl.aJ ?_ Pl.aX))
   · have adp:=Un.below qz (Ext.below lC oF)
     have adq:=Un.below qA (Ext.below lC oF)
     refine Pl.aA rfl rfl rfl rfl rfl yf ?_
     refine Calls.mono (yg (jP _ _ _ 12 18 adp adq (Sn.small (by decide)) (Sn.small (by decide))) (r:=6) (by decide)) ?_
     rintro e w31 ⟨adr,rfl,ads,Tp⟩
     have adt:=Ext.below YL Tp
     refine ⟨_,rfl,adt,?_⟩
     refine Pl.ak ?_
     refine Pl.aS [(false,3,7)] 15 132 Pl.aD (by kernel_rfl) (by kernel_rfl) (by kernel_rfl) ?_
     refine cO (n:=6) (by decide) rfl rfl rfl rfl rfl (fun _ k=>Ext.below adt k) ?_
     intro akl w32 Tq ano
     have Ih:=Ext.below adt Tq
     have atB:=U.kV (by decide) (by decide) ano
     refine Pl.ak ?_
     have YM:=Un.below ads Tq
     exact Pl.bK [(0,(.bool false)),(1,.slice Ko 1 1),(2,.slice Nh 1 1),(3,.slice Ni 1 1),(4,nQ),(5,.pointer (some ⟨N9,0,none⟩)),(6,.pointer (some ⟨MV,0,none⟩)),(7,nZ),(8,.pointer (some ⟨Sc,0,none⟩)),(9,.pointer (some ⟨N17,0,none⟩)),(10,.slice (some ⟨yh,0,none⟩) 3 qc),(11,zX),(12,(.int .i64 0)),(14,(.int .i64 4)),(16,(.int .i64 4)),(17,Co),(18,(.int .i64 0)),(19,Cq),(20,(.int .i64 0)),(21,zY),(22,(.int .i64 0)),(24,(.int .i64 3)),(90,adr),(91,.slice akl 1 1)] (Pl.aa rfl (Pl.aa rfl (Pl.aa rfl (Pl.aa rfl (Pl.aa rfl (Pl.aa rfl (Pl.aa rfl (Pl.aa rfl (Pl.aa rfl (Pl.aa rfl (Pl.aa rfl (Pl.aa rfl (Pl.aa rfl (Pl.aa rfl (Pl.aa rfl (Pl.aa rfl (Pl.aa rfl (Pl.aa rfl (Pl.aa rfl (Pl.aa rfl (Pl.aa rfl (Pl.aa rfl (Pl.aa rfl (Pl.aa rfl Pl.aK)))))))))))))))))))))))) (hK _ _ ⟨adr,.slice akl 1 1,rfl,(Ext.below Tp Tq),YM,atB⟩)
   · refine cO (n:=6) (by decide) rfl rfl rfl rfl rfl (fun _ k=>Ext.below YL k) ?_
     intro akm w31 Tp anp
     have adt:=Ext.below YL Tp
     have atC:=U.kV (by decide) (by decide) anp
     refine Pl.ak ?_
     refine Pl.aS [(false,2,11)] 15 132 Pl.aD (by kernel_rfl) (by kernel_rfl) (by kernel_rfl) ?_
     have adu:=Un.below qz (Ext.below lC (Ext.below oF Tp))
     have adv:=Un.below qA (Ext.below lC (Ext.below oF Tp))
     refine Pl.aA rfl rfl rfl rfl rfl yf ?_
     refine Calls.mono (yg (jP _ _ _ 12 18 adu adv (Sn.small (by decide)) (Sn.small (by decide))) (r:=6) (by decide)) ?_
     rintro e w32 ⟨akn,rfl,atD,Tq⟩
     have Ih:=Ext.below adt Tq
     refine ⟨_,rfl,Ih,?_⟩
     refine Pl.ak ?_
     have YN:=Un.below atC Tq
     exact Pl.bK [(0,(.bool false)),(1,.slice Ko 1 1),(2,.slice Nh 1 1),(3,.slice Ni 1 1),(4,nQ),(5,.pointer (some ⟨N9,0,none⟩)),(6,.pointer (some ⟨MV,0,none⟩)),(7,nZ),(8,.pointer (some ⟨Sc,0,none⟩)),(9,.pointer (some ⟨N17,0,none⟩)),(10,.slice (some ⟨yh,0,none⟩) 3 qc),(11,zX),(12,(.int .i64 0)),(14,(.int .i64 4)),(16,(.int .i64 4)),(17,Co),(18,(.int .i64 0)),(19,Cq),(20,(.int .i64 0)),(21,zY),(22,(.int .i64 0)),(24,(.int .i64 3)),(90,akn),(91,.slice akm 1 1)] (Pl.aa rfl (Pl.aa rfl (Pl.aa rfl (Pl.aa rfl (Pl.aa rfl (Pl.aa rfl (Pl.aa rfl (Pl.aa rfl (Pl.aa rfl (Pl.aa rfl (Pl.aa rfl (Pl.aa rfl (Pl.aa rfl (Pl.aa rfl (Pl.aa rfl (Pl.aa rfl (Pl.aa rfl (Pl.aa rfl (Pl.aa rfl (Pl.aa rfl (Pl.aa rfl (Pl.aa rfl (Pl.aa rfl (Pl.aa rfl Pl.aK)))))))))))))))))))))))) (hK _ _ ⟨akn,.slice akm 1 1,rfl,(Ext.below Tp Tq),atD,YN⟩)
 rintro _ aF9 ⟨aqj,aqk,rfl,lT,YO,YP⟩
 have atE:=Ext.below YL lT
 refine Pl.aS [(false,4,15),(true,5,31),(true,6,63),(true,7,127)] 255 128 Pl.aD (by kernel_rfl) (by kernel_rfl) (by kernel_rfl) ?_
 refine Pl.aA rfl rfl rfl rfl rfl gT ?_
 refine Calls.mono (eZ _ _ _ 6 6 YO YP true (decide_eq_true rfl)) ?_
 rintro e azE ⟨rfl,lU⟩
 have EB:=Ext.below atE lU
 refine ⟨_,rfl,EB,?_⟩
 refine Pl.ah EB rfl rfl rfl rfl rfl ?_
 refine Pl.ah EB rfl rfl rfl rfl rfl ?_
 refine Pl.ah EB rfl rfl rfl rfl rfl ?_
 refine Pl.ak ?_
 refine Pl.lm 126 1023 (fun l' w'=>∃ (atF:Value) (atG:Value),l'=[(0,(.bool false)),(1,.slice Ko 1 1),(2,.slice Nh 1 1),(3,.slice Ni 1 1),(4,nQ),(5,.pointer (some ⟨N9,0,none⟩)),(6,.pointer (some ⟨MV,0,none⟩)),(7,nZ),(8,.pointer (some ⟨Sc,0,none⟩)),(9,.pointer (some ⟨N17,0,none⟩)),(10,.slice (some ⟨yh,0,none⟩) 3 qc),(11,zX),(12,(.int .i64 0)),(14,(.int .i64 4)),(16,(.int .i64 4)),(17,Co),(18,(.int .i64 0)),(19,Cq),(20,(.int .i64 0)),(21,zY),(22,(.int .i64 0)),(24,(.int .i64 3)),(93,(.bool true)),(96,atF),(97,atG)]∧Ext azE w'∧Un w' atF 6∧Un w' atG 6) ?_ ?_
 rotate_left
 · intro hK
   refine Pl.dY [8,9] 127 (by kernel_rfl) (by kernel_rfl) (by kernel_rfl) (Pl.aJ ?_ (Pl.aJ ?_ Pl.aX))
   · have YQ:=Un.below qA (Ext.below lC (Ext.below oF (Ext.below lT lU)))
     have YR:=Un.below qz (Ext.below lC (Ext.below oF (Ext.below lT lU)))
     refine Pl.aA rfl rfl rfl rfl rfl Ic ?_
     refine Calls.mono (yg (iZ _ _ _ 18 12 YQ YR (Sn.small (by decide)) (Sn.small (by decide))) (r:=6) (by decide)) ?_
     rintro e azF ⟨adw,rfl,anq,Ii⟩
     have PO:=Ext.below EB Ii
     refine ⟨_,rfl,PO,?_⟩
     refine Pl.ak ?_
     refine Pl.aS [(false,9,511)] 1023 126 Pl.aD (by kernel_rfl) (by kernel_rfl) (by kernel_rfl) ?_
     refine cO (n:=6) (by decide) rfl rfl rfl rfl rfl (fun _ k=>Ext.below PO k) ?_
     intro adx azG Ij aij
     have ako:=Ext.below PO Ij
     have anr:=U.kV (by decide) (by decide) aij
     refine Pl.ak ?_
     have PR:=Un.below anq Ij
     exact Pl.bK [(0,(.bool false)),(1,.slice Ko 1 1),(2,.slice Nh 1 1),(3,.slice Ni 1 1),(4,nQ),(5,.pointer (some ⟨N9,0,none⟩)),(6,.pointer (some ⟨MV,0,none⟩)),(7,nZ),(8,.pointer (some ⟨Sc,0,none⟩)),(9,.pointer (some ⟨N17,0,none⟩)),(10,.slice (some ⟨yh,0,none⟩) 3 qc),(11,zX),(12,(.int .i64 0)),(14,(.int .i64 4)),(16,(.int .i64 4)),(17,Co),(18,(.int .i64 0)),(19,Cq),(20,(.int .i64 0)),(21,zY),(22,(.int .i64 0)),(24,(.int .i64 3)),(93,(.bool true)),(96,adw),(97,.slice adx 1 1)] (Pl.aa rfl (Pl.aa rfl (Pl.aa rfl (Pl.aa rfl (Pl.aa rfl (Pl.aa rfl (Pl.aa rfl (Pl.aa rfl (Pl.aa rfl (Pl.aa rfl (Pl.aa rfl (Pl.aa rfl (Pl.aa rfl (Pl.aa rfl (Pl.aa rfl (Pl.aa rfl (Pl.aa rfl (Pl.aa rfl (Pl.aa rfl (Pl.aa rfl (Pl.aa rfl (Pl.aa rfl (Pl.aa rfl (Pl.aa rfl (Pl.aa rfl Pl.aK))))))))))))))))))))))))) (hK _ _ ⟨adw,.slice adx 1 1,rfl,(Ext.below Ii Ij),PR,anr⟩)
   · refine cO (n:=6) (by decide) rfl rfl rfl rfl rfl (fun _ k=>Ext.below EB k) ?_
     intro ady azF Ii aik
     have PO:=Ext.below EB Ii
     have ant:=U.kV (by decide) (by decide) aik
     refine Pl.ak ?_
     refine Pl.aS [(false,8,767)] 1023 126 Pl.aD (by kernel_rfl) (by kernel_rfl) (by kernel_rfl) ?_
     have YS:=Un.below qA (Ext.below lC (Ext.below oF (Ext.below lT (Ext.below lU Ii))))
     have YT:=Un.below qz (Ext.below lC (Ext.below oF (Ext.below lT (Ext.below lU Ii))))
     refine Pl.aA rfl rfl rfl rfl rfl Ic ?_
     refine Calls.mono (yg (iZ _ _ _ 18 12 YS YT (Sn.small (by decide)) (Sn.small (by decide))) (r:=6) (by decide)) ?_
     rintro e azG ⟨adz,rfl,anu,Ij⟩
     have ako:=Ext.below PO Ij
     refine ⟨_,rfl,ako,?_⟩
     refine Pl.ak ?_
     have PS:=Un.below ant Ij
     exact Pl.bK [(0,(.bool false)),(1,.slice Ko 1 1),(2,.slice Nh 1 1),(3,.slice Ni 1 1),(4,nQ),(5,.pointer (some ⟨N9,0,none⟩)),(6,.pointer (some ⟨MV,0,none⟩)),(7,nZ),(8,.pointer (some ⟨Sc,0,none⟩)),(9,.pointer (some ⟨N17,0,none⟩)),(10,.slice (some ⟨yh,0,none⟩) 3 qc),(11,zX),(12,(.int .i64 0)),(14,(.int .i64 4)),(16,(.int .i64 4)),(17,Co),(18,(.int .i64 0)),(19,Cq),(20,(.int .i64 0)),(21,zY),(22,(.int .i64 0)),(24,(.int .i64 3)),(93,(.bool true)),(96,adz),(97,.slice ady 1 1)] (Pl.aa rfl (Pl.aa rfl (Pl.aa rfl (Pl.aa rfl (Pl.aa rfl (Pl.aa rfl (Pl.aa rfl (Pl.aa rfl (Pl.aa rfl (Pl.aa rfl (Pl.aa rfl (Pl.aa rfl (Pl.aa rfl (Pl.aa rfl (Pl.aa rfl (Pl.aa rfl (Pl.aa rfl (Pl.aa rfl (Pl.aa rfl (Pl.aa rfl (Pl.aa rfl (Pl.aa rfl (Pl.aa rfl (Pl.aa rfl (Pl.aa rfl Pl.aK))))))))))))))))))))))))) (hK _ _ ⟨adz,.slice ady 1 1,rfl,(Ext.below Ii Ij),anu,PS⟩)
 rintro _ aF' ⟨aql,aqm,rfl,oo,YU,YV⟩
 have atH:=Ext.below EB oo
 refine Pl.aS [(false,10,1023),(true,11,2047),(true,12,4095),(true,13,8191),(true,14,16383)] 32767 121 Pl.aD (by kernel_rfl) (by kernel_rfl) (by kernel_rfl) ?_
 refine Pl.aA rfl rfl rfl rfl rfl gT ?_
 refine Calls.mono (eZ _ _ _ 6 6 YU YV true (decide_eq_true rfl)) ?_
 rintro e azH ⟨rfl,oq⟩
 have Cr:=Ext.below atH oq
 refine ⟨_,rfl,Cr,?_⟩
 refine Pl.aO Cr rfl rfl rfl rfl rfl rfl ?_
 refine Pl.ah Cr rfl rfl rfl rfl rfl ?_
 refine Pl.ah Cr rfl rfl rfl rfl rfl ?_
 refine Pl.ah Cr rfl rfl rfl rfl rfl ?_
 refine Pl.ak ?_
 refine Pl.lm 119 131071 (fun l' w'=>∃ (akp:Value) (akq:Value),l'=[(0,(.bool false)),(1,.slice Ko 1 1),(2,.slice Nh 1 1),(3,.slice Ni 1 1),(4,nQ),(5,.pointer (some ⟨N9,0,none⟩)),(6,.pointer (some ⟨MV,0,none⟩)),(7,nZ),(8,.pointer (some ⟨Sc,0,none⟩)),(9,.pointer (some ⟨N17,0,none⟩)),(10,.slice (some ⟨yh,0,none⟩) 3 qc),(11,zX),(12,(.int .i64 0)),(14,(.int .i64 4)),(16,(.int .i64 4)),(17,Co),(18,(.int .i64 0)),(19,Cq),(20,(.int .i64 0)),(21,zY),(22,(.int .i64 0)),(24,(.int .i64 3)),(100,(.bool true)),(103,akp),(104,akq)]∧Ext azH w'∧Un w' akp 6∧Un w' akq 6) ?_ ?_
 rotate_left
 · intro hK
   refine Pl.dY [15,16] 120 (by kernel_rfl) (by kernel_rfl) (by kernel_rfl) (Pl.aJ ?_ (Pl.aJ ?_ Pl.aX))
   · have YX:=Un.below qz (Ext.below lC (Ext.below oF (Ext.below lT (Ext.below lU (Ext.below oo oq)))))
     have YY:=Un.below qA (Ext.below lC (Ext.below oF (Ext.below lT (Ext.below lU (Ext.below oo oq)))))
     refine Pl.aA rfl rfl rfl rfl rfl DW ?_
     refine Calls.mono (yg (jX _ _ _ 12 18 YX YY (Sn.small (by decide)) (Sn.small (by decide))) (r:=6) (by decide)) ?_
     rintro e azI ⟨Tt,rfl,Tu,Ik⟩
     have PT:=Ext.below Cr Ik
     refine ⟨_,rfl,PT,?_⟩
     refine Pl.ak ?_
     refine Pl.aS [(false,16,65535)] 131071 119 Pl.aD (by kernel_rfl) (by kernel_rfl) (by kernel_rfl) ?_
     refine cO (n:=6) (by decide) rfl rfl rfl rfl rfl (fun _ k=>Ext.below PT k) ?_
     intro adA azJ Il ail
     have akr:=Ext.below PT Il
     have anv:=U.kV (by decide) (by decide) ail
     refine Pl.ak ?_
     have PU:=Un.below Tu Il
     exact Pl.bK [(0,(.bool false)),(1,.slice Ko 1 1),(2,.slice Nh 1 1),(3,.slice Ni 1 1),(4,nQ),(5,.pointer (some ⟨N9,0,none⟩)),(6,.pointer (some ⟨MV,0,none⟩)),(7,nZ),(8,.pointer (some ⟨Sc,0,none⟩)),(9,.pointer (some ⟨N17,0,none⟩)),(10,.slice (some ⟨yh,0,none⟩) 3 qc),(11,zX),(12,(.int .i64 0)),(14,(.int .i64 4)),(16,(.int .i64 4)),(17,Co),(18,(.int .i64 0)),(19,Cq),(20,(.int .i64 0)),(21,zY),(22,(.int .i64 0)),(24,(.int .i64 3)),(100,(.bool true)),(103,Tt),(104,.slice adA 1 1)] (Pl.aa rfl (Pl.aa rfl (Pl.aa rfl (Pl.aa rfl (Pl.aa rfl (Pl.aa rfl (Pl.aa rfl (Pl.aa rfl (Pl.aa rfl (Pl.aa rfl (Pl.aa rfl (Pl.aa rfl (Pl.aa rfl (Pl.aa rfl (Pl.aa rfl (Pl.aa rfl (Pl.aa rfl (Pl.aa rfl (Pl.aa rfl (Pl.aa rfl (Pl.aa rfl (Pl.aa rfl (Pl.aa rfl (Pl.aa rfl (Pl.aa rfl Pl.aK))))))))))))))))))))))))) (hK _ _ ⟨Tt,.slice adA 1 1,rfl,(Ext.below Ik Il),PU,anv⟩)
   · refine cO (n:=6) (by decide) rfl rfl rfl rfl rfl (fun _ k=>Ext.below Cr k) ?_
     intro adB azI Ik aim
     have PT:=Ext.below Cr Ik
     have anw:=U.kV (by decide) (by decide) aim
     refine Pl.ak ?_
     refine Pl.aS [(false,15,98303)] 131071 119 Pl.aD (by kernel_rfl) (by kernel_rfl) (by kernel_rfl) ?_
     have YZ:=Un.below qz (Ext.below lC (Ext.below oF (Ext.below lT (Ext.below lU (Ext.below oo (Ext.below oq Ik))))))
     have Y0:=Un.below qA (Ext.below lC (Ext.below oF (Ext.below lT (Ext.below lU (Ext.below oo (Ext.below oq Ik))))))
     refine Pl.aA rfl rfl rfl rfl rfl DW ?_
     refine Calls.mono (yg (jX _ _ _ 12 18 YZ Y0 (Sn.small (by decide)) (Sn.small (by decide))) (r:=6) (by decide)) ?_
     rintro e azJ ⟨adC,rfl,anx,Il⟩
     have akr:=Ext.below PT Il
     refine ⟨_,rfl,akr,?_⟩
     refine Pl.ak ?_
     have PV:=Un.below anw Il
     exact Pl.bK [(0,(.bool false)),(1,.slice Ko 1 1),(2,.slice Nh 1 1),(3,.slice Ni 1 1),(4,nQ),(5,.pointer (some ⟨N9,0,none⟩)),(6,.pointer (some ⟨MV,0,none⟩)),(7,nZ),(8,.pointer (some ⟨Sc,0,none⟩)),(9,.pointer (some ⟨N17,0,none⟩)),(10,.slice (some ⟨yh,0,none⟩) 3 qc),(11,zX),(12,(.int .i64 0)),(14,(.int .i64 4)),(16,(.int .i64 4)),(17,Co),(18,(.int .i64 0)),(19,Cq),(20,(.int .i64 0)),(21,zY),(22,(.int .i64 0)),(24,(.int .i64 3)),(100,(.bool true)),(103,adC),(104,.slice adB 1 1)] (Pl.aa rfl (Pl.aa rfl (Pl.aa rfl (Pl.aa rfl (Pl.aa rfl (Pl.aa rfl (Pl.aa rfl (Pl.aa rfl (Pl.aa rfl (Pl.aa rfl (Pl.aa rfl (Pl.aa rfl (Pl.aa rfl (Pl.aa rfl (Pl.aa rfl (Pl.aa rfl (Pl.aa rfl (Pl.aa rfl (Pl.aa rfl (Pl.aa rfl (Pl.aa rfl (Pl.aa rfl (Pl.aa rfl (Pl.aa rfl (Pl.aa rfl Pl.aK))))))))))))))))))))))))) (hK _ _ ⟨adC,.slice adB 1 1,rfl,(Ext.below Ik Il),anx,PV⟩)
 rintro _ aGa ⟨anz,anA,rfl,qY,Tv,Tw⟩
 have atI:=Ext.below Cr qY
 refine Pl.aS [(false,17,131071),(true,18,262143),(true,19,524287),(false,20,1048575),(true,21,2097151),(true,22,4194303),(true,23,8388607),(true,24,16777215),(true,25,33554431),(true,27,67108863),(false,26,201326591),(false,28,268435455),(true,29,536870911),(true,30,1073741823),(true,31,2147483647),(false,32,4294967295),(false,33,8589934591),(true,34,17179869183),(true,35,34359738367),(true,36,68719476735),(false,37,137438953471),(false,38,274877906943),(true,39,549755813887),(true,40,1099511627775),(true,41,2199023255551),(false,42,4398046511103),(false,43,8796093022207),(true,44,17592186044415),(true,45,35184372088831),(true,46,70368744177663),(true,47,140737488355327),(false,48,281474976710655),(true,49,562949953421311),(true,50,1125899906842623),(true,51,2251799813685247),(false,52,4503599627370495),(false,53,9007199254740991),(true,54,18014398509481983),(true,55,36028797018963967),(true,56,72057594037927935),(false,57,144115188075855871),(false,58,288230376151711743),(true,59,576460752303423487),(true,60,1152921504606846975),(true,61,2305843009213693951),(true,62,4611686018427387903),(true,63,9223372036854775807),(true,64,18446744073709551615),(true,65,36893488147419103231),(true,66,73786976294838206463),(true,67,147573952589676412927),(true,68,295147905179352825855),(true,69,590295810358705651711),(true,70,1180591620717411303423),(true,71,2361183241434822606847),(false,72,4722366482869645213695),(true,73,9444732965739290427391),(true,74,18889465931478580854783),(true,75,37778931862957161709567),(true,76,75557863725914323419135),(true,77,151115727451828646838271),(false,78,302231454903657293676543),(false,79,604462909807314587353087),(true,80,1208925819614629174706175),(true,81,2417851639229258349412351),(true,82,4835703278458516698824703),(false,83,9671406556917033397649407),(true,84,19342813113834066795298815),(true,85,38685626227668133590597631),(true,86,77371252455336267181195263),(true,87,154742504910672534362390527),(true,88,309485009821345068724781055),(false,89,618970019642690137449562111),(false,90,1237940039285380274899124223),(true,91,2475880078570760549798248447),(true,92,4951760157141521099596496895),(true,93,9903520314283042199192993791),(true,94,19807040628566084398385987583),(true,95,39614081257132168796771975167),(true,96,79228162514264337593543950335),(true,97,158456325028528675187087900671),(true,98,316912650057057350374175801343),(true,99,633825300114114700748351602687),(true,100,1267650600228229401496703205375),(true,101,2535301200456458802993406410751),(true,102,5070602400912917605986812821503),(true,103,10141204801825835211973625643007),(true,104,20282409603651670423947251286015),(true,105,40564819207303340847894502572031),(true,106,81129638414606681695789005144063),(true,107,162259276829213363391578010288127),(true,108,324518553658426726783156020576255),(true,109,649037107316853453566312041152511),(true,110,1298074214633706907132624082305023),(true,111,2596148429267413814265248164610047),(true,112,5192296858534827628530496329220095),(true,113,10384593717069655257060992658440191),(true,114,20769187434139310514121985316880383),(false,115,41538374868278621028243970633760767),(false,116,83076749736557242056487941267521535),(true,117,166153499473114484112975882535043071),(true,118,332306998946228968225951765070086143),(true,119,664613997892457936451903530140172287),(true,120,1329227995784915872903807060280344575),(true,121,2658455991569831745807614120560689151),(true,122,5316911983139663491615228241121378303),(true,123,10633823966279326983230456482242756607),(true,124,21267647932558653966460912964485513215),(false,125,42535295865117307932921825928971026431),(true,126,85070591730234615865843651857942052863),(true,127,170141183460469231731687303715884105727),(true,128,340282366920938463463374607431768211455),(true,129,680564733841876926926749214863536422911),(true,130,1361129467683753853853498429727072845823),(true,131,2722258935367507707706996859454145691647),(true,132,5444517870735015415413993718908291383295),(true,133,10889035741470030830827987437816582766591),(true,134,21778071482940061661655974875633165533183),(true,135,43556142965880123323311949751266331066367)] 87112285931760246646623899502532662132735 0 Pl.aD (by kernel_rfl) (by kernel_rfl) (by kernel_rfl) ?_
 refine Pl.aA rfl rfl rfl rfl rfl gT ?_
 refine Calls.mono (eZ _ _ _ 6 6 Tv Tw true (decide_eq_true rfl)) ?_
 rintro e aGb ⟨rfl,qZ⟩
 have Wx:=Ext.below atI qZ
 refine ⟨_,rfl,Wx,?_⟩
 refine Pl.aO Wx rfl rfl rfl rfl rfl rfl ?_
 refine Pl.ah Wx rfl rfl rfl rfl rfl ?_
 refine Pl.aA rfl rfl rfl rfl rfl yf ?_
 refine Calls.mono (yg (jP _ _ _ 0 0 (Un.nil _ _ _) (Un.nil _ _ _) Sn.zero Sn.zero) (r:=0) (by decide)) ?_
 rintro e aGc ⟨azK,rfl,anB,rq⟩
 have EC:=Ext.below Wx rq
 refine ⟨_,rfl,EC,?_⟩
 obtain ⟨azL,azM,rfl,-⟩:=Un.sh anB
 refine bG EC rfl rfl rfl rfl rfl ?_
 refine Pl.aI (v:=(.bool true)) EC rfl rfl rfl rfl rfl rfl (fun X=>fV (dN.trans (decide_eq_true rfl)) X) ?_
 refine Pl.aO EC rfl rfl rfl rfl rfl rfl ?_
 refine Pl.ah EC rfl rfl rfl rfl rfl ?_
 refine Pl.ah EC rfl rfl rfl rfl rfl ?_
 refine Pl.ah EC rfl rfl rfl rfl rfl ?_
 have Lj:=Un.below qA (Ext.below lC (Ext.below oF (Ext.below lT (Ext.below lU (Ext.below oo (Ext.below oq (Ext.below qY (Ext.below qZ rq))))))))
 refine Pl.aA rfl rfl rfl rfl rfl DW ?_
 refine Calls.mono (yg (jX _ _ _ 0 18 (Un.nil _ _ _) Lj Sn.zero (Sn.small (by decide))) (r:=18) (by decide)) ?_
 rintro e aGd ⟨azN,rfl,anC,ru⟩
 have aks:=Ext.below EC ru
 refine ⟨_,rfl,aks,?_⟩
 have Y1:=Un.below Lj ru
 refine Pl.aA rfl rfl rfl rfl rfl gT ?_
 refine Calls.mono (eZ _ _ _ 18 18 anC Y1 true (decide_eq_true rfl)) ?_
 rintro e aGe ⟨rfl,sJ⟩
 have Ll:=Ext.below aks sJ
 refine ⟨_,rfl,Ll,?_⟩
 refine Pl.aO Ll rfl rfl rfl rfl rfl rfl ?_
 refine Pl.ah Ll rfl rfl rfl rfl rfl ?_
 refine Pl.ah Ll rfl rfl rfl rfl rfl ?_
 refine cO (n:=6) (by decide) rfl rfl rfl rfl rfl (fun _ k=>Ext.below Ll k) ?_
 intro azO aGf sK ain
 have atJ:=Ext.below Ll sK
 have anD:=U.kV (by decide) (by decide) ain
 have Y2:=Un.below tq (Ext.below cB (Ext.below eP (Ext.below dP (Ext.below dO (Ext.below dX (Ext.below iF (Ext.below fU (Ext.below iQ (Ext.below je (Ext.below jL (Ext.below jM (Ext.below jT (Ext.below jC (Ext.below kJ (Ext.below lu (Ext.below nR (Ext.below oO (Ext.below pV (Ext.below lC (Ext.below oF (Ext.below lT (Ext.below lU (Ext.below oo (Ext.below oq (Ext.below qY (Ext.below qZ (Ext.below rq (Ext.below ru (Ext.below sJ sK)))))))))))))))))))))))))))))
 refine Pl.aA rfl rfl rfl rfl rfl gT ?_
 refine Calls.mono (eZ _ _ _ 6 6 Y2 anD true (decide_eq_true rfl)) ?_
 rintro e aGg ⟨rfl,uf⟩
 have PW:=Ext.below atJ uf
 refine ⟨_,rfl,PW,?_⟩
 refine Pl.aO PW rfl rfl rfl rfl rfl rfl ?_
 refine Pl.ah PW rfl rfl rfl rfl rfl ?_
 have aio:=Ib.ext Nq (Ext.below eP (Ext.below dP (Ext.below dO (Ext.below dX (Ext.below iF (Ext.below fU (Ext.below iQ (Ext.below je (Ext.below jL (Ext.below jM (Ext.below jT (Ext.below jC (Ext.below kJ (Ext.below lu (Ext.below nR (Ext.below oO (Ext.below pV lC)))))))))))))))))
 refine Pl.aR PW rfl rfl rfl rfl rfl (fun X hX=>Ib.load (Ib.ext aio hX)) ?_
 refine Pl.aA rfl rfl rfl rfl rfl aic ?_
 refine Calls.mono (Im _ (-1) (by decide) (by decide)) ?_
 rintro e aGh ⟨azP,rfl,anE,ug⟩
 have akt:=Ext.below PW ug
 refine ⟨_,rfl,akt,?_⟩
 have Y3:=Zn.below xu (Ext.below cB (Ext.below eP (Ext.below dP (Ext.below dO (Ext.below dX (Ext.below iF (Ext.below fU (Ext.below iQ (Ext.below je (Ext.below jL (Ext.below jM (Ext.below jT (Ext.below jC (Ext.below kJ (Ext.below lu (Ext.below nR (Ext.below oO (Ext.below pV (Ext.below lC (Ext.below oF (Ext.below lT (Ext.below lU (Ext.below oo (Ext.below oq (Ext.below qY (Ext.below qZ (Ext.below rq (Ext.below ru (Ext.below sJ (Ext.below sK (Ext.below uf ug)))))))))))))))))))))))))))))))
 refine Pl.aA rfl rfl rfl rfl rfl Nc ?_
 refine Calls.mono (DY _ _ _ (-1) (-1) Y3 anE (Sz.lit (by decide) (by decide)) (Sz.lit (by decide) (by decide)) true (by decide)) ?_
 rintro e aGi ⟨rfl,uX⟩
 have PX:=Ext.below akt uX
 refine ⟨_,rfl,PX,?_⟩
 refine Pl.aO PX rfl rfl rfl rfl rfl rfl ?_
 refine Pl.ah PX rfl rfl rfl rfl rfl ?_
 have aip:=Ib.ext I_8 (Ext.below eP (Ext.below dP (Ext.below dO (Ext.below dX (Ext.below iF (Ext.below fU (Ext.below iQ (Ext.below je (Ext.below jL (Ext.below jM (Ext.below jT (Ext.below jC (Ext.below kJ (Ext.below lu (Ext.below nR (Ext.below oO (Ext.below pV lC)))))))))))))))))
 refine Pl.aR PX rfl rfl rfl rfl rfl (fun X hX=>Ib.load (Ib.ext aip hX)) ?_
 refine Pl.aA rfl rfl rfl rfl rfl aic ?_
 refine Calls.mono (Im _ 1 (by decide) (by decide)) ?_
 rintro e aGj ⟨azQ,rfl,anF,uY⟩
 have aku:=Ext.below PX uY
 refine ⟨_,rfl,aku,?_⟩
 have Y4:=Zn.below aih (Ext.below cB (Ext.below eP (Ext.below dP (Ext.below dO (Ext.below dX (Ext.below iF (Ext.below fU (Ext.below iQ (Ext.below je (Ext.below jL (Ext.below jM (Ext.below jT (Ext.below jC (Ext.below kJ (Ext.below lu (Ext.below nR (Ext.below oO (Ext.below pV (Ext.below lC (Ext.below oF (Ext.below lT (Ext.below lU (Ext.below oo (Ext.below oq (Ext.below qY (Ext.below qZ (Ext.below rq (Ext.below ru (Ext.below sJ (Ext.below sK (Ext.below uf (Ext.below ug (Ext.below uX uY)))))))))))))))))))))))))))))))))
 refine Pl.aA rfl rfl rfl rfl rfl Nc ?_
 refine Calls.mono (DY _ _ _ 1 1 Y4 anF (Sz.lit (by decide) (by decide)) (Sz.lit (by decide) (by decide)) true (by decide)) ?_
 rintro e aGk ⟨rfl,wT⟩
 have Lm:=Ext.below aku wT
 refine ⟨_,rfl,Lm,?_⟩
 refine Pl.aO Lm rfl rfl rfl rfl rfl rfl ?_
 refine Pl.ah Lm rfl rfl rfl rfl rfl ?_
 refine Pl.ah Lm rfl rfl rfl rfl rfl ?_
 refine Pl.ah Lm rfl rfl rfl rfl rfl ?_
 have Tx:=Un.below rX (Ext.below dP (Ext.below dO (Ext.below dX (Ext.below iF (Ext.below fU (Ext.below iQ (Ext.below je (Ext.below jL (Ext.below jM (Ext.below jT (Ext.below jC (Ext.below kJ (Ext.below lu (Ext.below nR (Ext.below oO (Ext.below pV (Ext.below lC (Ext.below oF (Ext.below lT (Ext.below lU (Ext.below oo (Ext.below oq (Ext.below qY (Ext.below qZ (Ext.below rq (Ext.below ru (Ext.below sJ (Ext.below sK (Ext.below uf (Ext.below ug (Ext.below uX (Ext.below uY wT))))))))))))))))))))))))))))))))
 have Lp:=Un.below qz (Ext.below lC (Ext.below oF (Ext.below lT (Ext.below lU (Ext.below oo (Ext.below oq (Ext.below qY (Ext.below qZ (Ext.below rq (Ext.below ru (Ext.below sJ (Ext.below sK (Ext.below uf (Ext.below ug (Ext.below uX (Ext.below uY wT))))))))))))))))
 refine Pl.aA rfl rfl rfl rfl rfl gT ?_
 refine Calls.mono (eZ _ _ _ 12 12 Tx Lp true (decide_eq_true rfl)) ?_
 rintro e aGl ⟨rfl,yj⟩
 have PY:=Ext.below Lm yj
 refine ⟨_,rfl,PY,?_⟩
 refine Pl.aO PY rfl rfl rfl rfl rfl rfl ?_
 refine Pl.ah PY rfl rfl rfl rfl rfl ?_
 have adD:=Ib.ext adi (Ext.below dO (Ext.below dX (Ext.below iF (Ext.below fU (Ext.below iQ (Ext.below je (Ext.below jL (Ext.below jM (Ext.below jT (Ext.below jC (Ext.below kJ (Ext.below lu (Ext.below nR (Ext.below oO (Ext.below pV lC)))))))))))))))
 refine Pl.aR PY rfl rfl rfl rfl rfl (fun X hX=>Ib.load (Ib.ext adD hX)) ?_
 refine Pl.aA rfl rfl rfl rfl rfl aic ?_
 refine Calls.mono (Im _ 1 (by decide) (by decide)) ?_
 rintro e aGm ⟨azR,rfl,anG,yl⟩
 have akv:=Ext.below PY yl
 refine ⟨_,rfl,akv,?_⟩
 have Ty:=Zn.below qx (Ext.below dP (Ext.below dO (Ext.below dX (Ext.below iF (Ext.below fU (Ext.below iQ (Ext.below je (Ext.below jL (Ext.below jM (Ext.below jT (Ext.below jC (Ext.below kJ (Ext.below lu (Ext.below nR (Ext.below oO (Ext.below pV (Ext.below lC (Ext.below oF (Ext.below lT (Ext.below lU (Ext.below oo (Ext.below oq (Ext.below qY (Ext.below qZ (Ext.below rq (Ext.below ru (Ext.below sJ (Ext.below sK (Ext.below uf (Ext.below ug (Ext.below uX (Ext.below uY (Ext.below wT (Ext.below yj yl))))))))))))))))))))))))))))))))))
 refine Pl.aA rfl rfl rfl rfl rfl Nc ?_
 refine Calls.mono (DY _ _ _ 1 1 Ty anG (Sz.lit (by decide) (by decide)) (Sz.lit (by decide) (by decide)) true (by decide)) ?_
 rintro e aGn ⟨rfl,zZ⟩
 have PZ:=Ext.below akv zZ
 refine ⟨_,rfl,PZ,?_⟩
 refine Pl.aO PZ rfl rfl rfl rfl rfl rfl ?_
 refine Pl.ah PZ rfl rfl rfl rfl rfl ?_
 have adE:=Ib.ext anf (Ext.below dO (Ext.below dX (Ext.below iF (Ext.below fU (Ext.below iQ (Ext.below je (Ext.below jL (Ext.below jM (Ext.below jT (Ext.below jC (Ext.below kJ (Ext.below lu (Ext.below nR (Ext.below oO (Ext.below pV lC)))))))))))))))
 refine Pl.aR PZ rfl rfl rfl rfl rfl (fun X hX=>Ib.load (Ib.ext adE hX)) ?_
 refine Pl.aA rfl rfl rfl rfl rfl aic ?_
 refine Calls.mono (Im _ 0 (by decide) (by decide)) ?_
 rintro e aGo ⟨azS,rfl,anH,Ac⟩
 have akw:=Ext.below PZ Ac
 refine ⟨_,rfl,akw,?_⟩
 have Tz:=Zn.below pI (Ext.below dP (Ext.below dO (Ext.below dX (Ext.below iF (Ext.below fU (Ext.below iQ (Ext.below je (Ext.below jL (Ext.below jM (Ext.below jT (Ext.below jC (Ext.below kJ (Ext.below lu (Ext.below nR (Ext.below oO (Ext.below pV (Ext.below lC (Ext.below oF (Ext.below lT (Ext.below lU (Ext.below oo (Ext.below oq (Ext.below qY (Ext.below qZ (Ext.below rq (Ext.below ru (Ext.below sJ (Ext.below sK (Ext.below uf (Ext.below ug (Ext.below uX (Ext.below uY (Ext.below wT (Ext.below yj (Ext.below yl (Ext.below zZ Ac))))))))))))))))))))))))))))))))))))
 refine Pl.aA rfl rfl rfl rfl rfl Nc ?_
 refine Calls.mono (DY _ _ _ 0 0 Tz anH (Sz.lit (by decide) (by decide)) (Sz.lit (by decide) (by decide)) true (by decide)) ?_
 rintro e aGp ⟨rfl,Ct⟩
 have sM:=Ext.below akw Ct
 refine ⟨_,rfl,sM,?_⟩
 refine Pl.aO sM rfl rfl rfl rfl rfl rfl ?_
 refine Pl.ah sM rfl rfl rfl rfl rfl ?_
 refine Pl.ah sM rfl rfl rfl rfl rfl ?_
 refine aP sM rfl rfl rfl rfl rfl rfl (Nf _ _ _ 0 (by decide)) ?_
 refine Pl.aR sM rfl rfl rfl rfl rfl (fun X hX=>Gr.wP (Gr.ext (Gr.ext DX (Ext.below dX (Ext.below iF (Ext.below fU (Ext.below iQ (Ext.below je (Ext.below jL (Ext.below jM (Ext.below jT (Ext.below jC (Ext.below kJ (Ext.below lu (Ext.below nR (Ext.below oO (Ext.below pV lC))))))))))))))) hX) rfl) ?_
 refine bG sM rfl rfl rfl rfl rfl ?_
 refine Pl.aI (v:=(.bool true)) sM rfl rfl rfl rfl rfl rfl (fun X=>fV (dN.trans (decide_eq_true rfl)) X) ?_
 refine Pl.aO sM rfl rfl rfl rfl rfl rfl ?_
 refine Pl.ah sM rfl rfl rfl rfl rfl ?_
 refine Pl.ah sM rfl rfl rfl rfl rfl ?_
 refine aP sM rfl rfl rfl rfl rfl rfl (Nf _ _ _ 1 (by decide)) ?_
 refine Pl.aR sM rfl rfl rfl rfl rfl (fun X hX=>Gr.wP (Gr.ext (Gr.ext DX (Ext.below dX (Ext.below iF (Ext.below fU (Ext.below iQ (Ext.below je (Ext.below jL (Ext.below jM (Ext.below jT (Ext.below jC (Ext.below kJ (Ext.below lu (Ext.below nR (Ext.below oO (Ext.below pV lC))))))))))))))) hX) rfl) ?_
 refine Pl.ah sM rfl rfl rfl rfl rfl ?_
 have TA:=Un.below adl (Ext.below dX (Ext.below iF (Ext.below fU (Ext.below iQ (Ext.below je (Ext.below jL (Ext.below jM (Ext.below jT (Ext.below jC (Ext.below kJ (Ext.below lu (Ext.below nR (Ext.below oO (Ext.below pV (Ext.below lC (Ext.below oF (Ext.below lT (Ext.below lU (Ext.below oo (Ext.below oq (Ext.below qY (Ext.below qZ (Ext.below rq (Ext.below ru (Ext.below sJ (Ext.below sK (Ext.below uf (Ext.below ug (Ext.below uX (Ext.below uY (Ext.below wT (Ext.below yj (Ext.below yl (Ext.below zZ (Ext.below Ac Ct)))))))))))))))))))))))))))))))))))
 have Lr:=Un.below PN (Ext.below jT (Ext.below jC (Ext.below kJ (Ext.below lu (Ext.below nR (Ext.below oO (Ext.below pV (Ext.below lC (Ext.below oF (Ext.below lT (Ext.below lU (Ext.below oo (Ext.below oq (Ext.below qY (Ext.below qZ (Ext.below rq (Ext.below ru (Ext.below sJ (Ext.below sK (Ext.below uf (Ext.below ug (Ext.below uX (Ext.below uY (Ext.below wT (Ext.below yj (Ext.below yl (Ext.below zZ (Ext.below Ac Ct))))))))))))))))))))))))))))
 refine Pl.aA rfl rfl rfl rfl rfl gT ?_
 refine Calls.mono (eZ _ _ _ 1 1 TA Lr true (decide_eq_true rfl)) ?_
 rintro e aGq ⟨rfl,ED⟩
 have EE:=Ext.below sM ED
 refine ⟨_,rfl,EE,?_⟩
 refine Pl.aO EE rfl rfl rfl rfl rfl rfl ?_
 refine Pl.ah EE rfl rfl rfl rfl rfl ?_
 refine Pl.ah EE rfl rfl rfl rfl rfl ?_
 refine aP EE rfl rfl rfl rfl rfl rfl (Nf _ _ _ 2 (by decide)) ?_
 refine Pl.aR EE rfl rfl rfl rfl rfl (fun X hX=>Gr.wP (Gr.ext (Gr.ext DX (Ext.below dX (Ext.below iF (Ext.below fU (Ext.below iQ (Ext.below je (Ext.below jL (Ext.below jM (Ext.below jT (Ext.below jC (Ext.below kJ (Ext.below lu (Ext.below nR (Ext.below oO (Ext.below pV lC))))))))))))))) hX) rfl) ?_
 refine cO (n:=2) (by decide) rfl rfl rfl rfl rfl (fun _ k=>Ext.below EE k) ?_
 intro azT aGr EF aiq
 have atK:=Ext.below EE EF
 have anI:=U.kV (by decide) (by decide) aiq
 have TB:=Un.below Ig (Ext.below dX (Ext.below iF (Ext.below fU (Ext.below iQ (Ext.below je (Ext.below jL (Ext.below jM (Ext.below jT (Ext.below jC (Ext.below kJ (Ext.below lu (Ext.below nR (Ext.below oO (Ext.below pV (Ext.below lC (Ext.below oF (Ext.below lT (Ext.below lU (Ext.below oo (Ext.below oq (Ext.below qY (Ext.below qZ (Ext.below rq (Ext.below ru (Ext.below sJ (Ext.below sK (Ext.below uf (Ext.below ug (Ext.below uX (Ext.below uY (Ext.below wT (Ext.below yj (Ext.below yl (Ext.below zZ (Ext.below Ac (Ext.below Ct (Ext.below ED EF)))))))))))))))))))))))))))))))))))))
 refine Pl.aA rfl rfl rfl rfl rfl gT ?_
 refine Calls.mono (eZ _ _ _ 2 2 TB anI true (decide_eq_true rfl)) ?_
 rintro e aGs ⟨rfl,Ip⟩
 have P5:=Ext.below atK Ip
 refine ⟨_,rfl,P5,?_⟩
 refine Pl.aO P5 rfl rfl rfl rfl rfl rfl ?_
 refine Pl.ah P5 rfl rfl rfl rfl rfl ?_
 refine Pl.ah P5 rfl rfl rfl rfl rfl ?_
 have Y5:=Un.below Lp (Ext.below yj (Ext.below yl (Ext.below zZ (Ext.below Ac (Ext.below Ct (Ext.below ED (Ext.below EF Ip)))))))
 refine Pl.aA rfl rfl rfl rfl rfl YF ?_
 refine Calls.mono (YG _ _ _ Y5 (Un.nil _ _ _)) ?_
 rintro e aGt ⟨azU,azV,rfl,Ls⟩
 have EG:=Ext.below P5 Ls
 refine ⟨_,rfl,EG,?_⟩
 refine nN EG rfl rfl rfl rfl rfl ?_
 refine Pl.aI (v:=(.bool true)) EG rfl rfl rfl rfl rfl rfl (fun X=>by go_simp) ?_
 refine Pl.aO EG rfl rfl rfl rfl rfl rfl ?_
 refine Pl.ah EG rfl rfl rfl rfl rfl ?_
 refine Pl.ah EG rfl rfl rfl rfl rfl ?_
 refine cO (n:=5) (by decide) rfl rfl rfl rfl rfl (fun _ k=>Ext.below EG k) ?_
 intro azW aGu Lt air
 have atL:=Ext.below EG Lt
 have anJ:=U.kV (by decide) (by decide) air
 have TC:=Un.below adn (Ext.below iQ (Ext.below je (Ext.below jL (Ext.below jM (Ext.below jT (Ext.below jC (Ext.below kJ (Ext.below lu (Ext.below nR (Ext.below oO (Ext.below pV (Ext.below lC (Ext.below oF (Ext.below lT (Ext.below lU (Ext.below oo (Ext.below oq (Ext.below qY (Ext.below qZ (Ext.below rq (Ext.below ru (Ext.below sJ (Ext.below sK (Ext.below uf (Ext.below ug (Ext.below uX (Ext.below uY (Ext.below wT (Ext.below yj (Ext.below yl (Ext.below zZ (Ext.below Ac (Ext.below Ct (Ext.below ED (Ext.below EF (Ext.below Ip (Ext.below Ls Lt)))))))))))))))))))))))))))))))))))))
 refine Pl.aA rfl rfl rfl rfl rfl gT ?_
 refine Calls.mono (eZ _ _ _ 5 5 TC anJ true (decide_eq_true rfl)) ?_
 rintro e aGv ⟨rfl,P6⟩
 have kK:=Ext.below atL P6
 refine ⟨_,rfl,kK,?_⟩
 refine Pl.aO kK rfl rfl rfl rfl rfl rfl ?_
 refine Pl.ah kK rfl rfl rfl rfl rfl ?_
 refine Pl.ah kK rfl rfl rfl rfl rfl ?_
 refine Pl.aI (v:=(.bool true)) kK rfl rfl rfl rfl rfl rfl (fun X=>by go_simp) ?_
 refine Pl.aO kK rfl rfl rfl rfl rfl rfl ?_
 refine Pl.ah kK rfl rfl rfl rfl rfl ?_
 refine Pl.ah kK rfl rfl rfl rfl rfl ?_
 refine Pl.aI (v:=(.bool true)) kK rfl rfl rfl rfl rfl rfl (fun X=>by go_simp) ?_
 refine Pl.aO kK rfl rfl rfl rfl rfl rfl ?_
 refine Pl.ah kK rfl rfl rfl rfl rfl ?_
 refine Pl.ah kK rfl rfl rfl rfl rfl ?_
 refine Pl.aI (v:=(.bool true)) kK rfl rfl rfl rfl rfl rfl (fun X=>by go_simp) ?_
 refine Pl.aO kK rfl rfl rfl rfl rfl rfl ?_
 refine Pl.ah kK rfl rfl rfl rfl rfl ?_
 refine Pl.ah kK rfl rfl rfl rfl rfl ?_
 obtain ⟨aC2,aC3,rfl,-⟩:=Un.sh att
 refine bG kK rfl rfl rfl rfl rfl ?_
 refine Pl.aI (v:=(.bool true)) kK rfl rfl rfl rfl rfl rfl (fun X=>fV (dN.trans (decide_eq_true rfl)) X) ?_
 refine Pl.aO kK rfl rfl rfl rfl rfl rfl ?_
 refine Pl.ah kK rfl rfl rfl rfl rfl ?_
 refine Pl.ah kK rfl rfl rfl rfl rfl ?_
 refine Pl.aI (v:=(.bool true)) kK rfl rfl rfl rfl rfl rfl (fun X=>by go_simp) ?_
 refine Pl.aO kK rfl rfl rfl rfl rfl rfl ?_
 refine Pl.ah kK rfl rfl rfl rfl rfl ?_
 refine Pl.ah kK rfl rfl rfl rfl rfl ?_
 refine cO (n:=24) (by decide) rfl rfl rfl rfl rfl (fun _ k=>Ext.below kK k) ?_
 intro azX aGw P7 ais
 have atM:=Ext.below kK P7
 have anK:=U.kV (by decide) (by decide) ais
 have TD:=Un.below atx (Ext.below oO (Ext.below pV (Ext.below lC (Ext.below oF (Ext.below lT (Ext.below lU (Ext.below oo (Ext.below oq (Ext.below qY (Ext.below qZ (Ext.below rq (Ext.below ru (Ext.below sJ (Ext.below sK (Ext.below uf (Ext.below ug (Ext.below uX (Ext.below uY (Ext.below wT (Ext.below yj (Ext.below yl (Ext.below zZ (Ext.below Ac (Ext.below Ct (Ext.below ED (Ext.below EF (Ext.below Ip (Ext.below Ls (Ext.below Lt (Ext.below P6 P7))))))))))))))))))))))))))))))
 refine Pl.aA rfl rfl rfl rfl rfl gT ?_
 refine Calls.mono (eZ _ _ _ 24 24 TD anK true (decide_eq_true rfl)) ?_
 rintro e aGx ⟨rfl,Wy⟩
 have Ad:=Ext.below atM Wy
 refine ⟨_,rfl,Ad,?_⟩
 refine Pl.aO Ad rfl rfl rfl rfl rfl rfl ?_
 refine Pl.ah Ad rfl rfl rfl rfl rfl ?_
 refine Pl.ah Ad rfl rfl rfl rfl rfl ?_
 refine Pl.aI (v:=(.bool true)) Ad rfl rfl rfl rfl rfl rfl (fun X=>by go_simp) ?_
 refine Pl.aO Ad rfl rfl rfl rfl rfl rfl ?_
 refine Pl.ah Ad rfl rfl rfl rfl rfl ?_
 refine Pl.ah Ad rfl rfl rfl rfl rfl ?_
 refine Pl.ah Ad rfl rfl rfl rfl rfl ?_
 have TE:=Un.below ado (Ext.below lC (Ext.below oF (Ext.below lT (Ext.below lU (Ext.below oo (Ext.below oq (Ext.below qY (Ext.below qZ (Ext.below rq (Ext.below ru (Ext.below sJ (Ext.below sK (Ext.below uf (Ext.below ug (Ext.below uX (Ext.below uY (Ext.below wT (Ext.below yj (Ext.below yl (Ext.below zZ (Ext.below Ac (Ext.below Ct (Ext.below ED (Ext.below EF (Ext.below Ip (Ext.below Ls (Ext.below Lt (Ext.below P6 (Ext.below P7 Wy)))))))))))))))))))))))))))))
 have Y6:=Un.below Lr (Ext.below ED (Ext.below EF (Ext.below Ip (Ext.below Ls (Ext.below Lt (Ext.below P6 (Ext.below P7 Wy)))))))
 refine Pl.aA rfl rfl rfl rfl rfl gT ?_
 refine Calls.mono (eZ _ _ _ 1 1 TE Y6 true (decide_eq_true rfl)) ?_
 rintro e aGy ⟨rfl,akx⟩
 have ym:=Ext.below Ad akx
 refine ⟨_,rfl,ym,?_⟩
 refine Pl.aO ym rfl rfl rfl rfl rfl rfl ?_
 refine Pl.ah ym rfl rfl rfl rfl rfl ?_
 refine Pl.ah ym rfl rfl rfl rfl rfl ?_
 refine Pl.aI (v:=(.bool true)) ym rfl rfl rfl rfl rfl rfl (fun X=>by go_simp) ?_
 refine Pl.aO ym rfl rfl rfl rfl rfl rfl ?_
 refine Pl.ah ym rfl rfl rfl rfl rfl ?_
 refine Pl.ah ym rfl rfl rfl rfl rfl ?_
 refine Pl.aI (v:=(.bool true)) ym rfl rfl rfl rfl rfl rfl (fun X=>by go_simp) ?_
 refine Pl.aO ym rfl rfl rfl rfl rfl rfl ?_
 refine Pl.aj ym rfl rfl rfl rfl rfl ?_
 refine Pl.ak ?_
 refine Pl.G_V (by kernel_rfl) ?_
 refine Pl.bU rfl rfl ?_
 exact ⟨rfl,(Ext.below hB1 (Ext.below hB2 (Ext.below hB3 (Ext.below hB4 (Ext.below cB (Ext.below eP (Ext.below dP (Ext.below dO (Ext.below dX (Ext.below iF (Ext.below fU (Ext.below iQ (Ext.below je (Ext.below jL (Ext.below jM (Ext.below jT (Ext.below jC (Ext.below kJ (Ext.below lu (Ext.below nR (Ext.below oO (Ext.below pV (Ext.below lC (Ext.below oF (Ext.below lT (Ext.below lU (Ext.below oo (Ext.below oq (Ext.below qY (Ext.below qZ (Ext.below rq (Ext.below ru (Ext.below sJ (Ext.below sK (Ext.below uf (Ext.below ug (Ext.below uX (Ext.below uY (Ext.below wT (Ext.below yj (Ext.below yl (Ext.below zZ (Ext.below Ac (Ext.below Ct (Ext.below ED (Ext.below EF (Ext.below Ip (Ext.below Ls (Ext.below Lt (Ext.below P6 (Ext.below P7 (Ext.below Wy akx))))))))))))))))))))))))))))))))))))))))))))))))))))⟩
end Go.Proofs.YtnilonnkcbkdmaaGreatDoor
