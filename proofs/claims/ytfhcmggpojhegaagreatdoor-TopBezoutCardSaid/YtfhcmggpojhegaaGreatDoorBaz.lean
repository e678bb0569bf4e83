/- Both rests, both cofactors of many steps. -/
import Derived.Test.YtfhcmggpojhegaaGreatDoorBay

namespace Go.Proofs.YtfhcmggpojhegaaGreatDoor
open Go.RowKit
set_option linter.all false
set_option maxRecDepth 100000
set_option maxHeartbeats 8000000
theorem PR (w:World) (va vb:Value) (a b u0 u1 v0 v1:Nat) (ha:Un w va a) (hb':Un w vb b) (hla:Sn a 900000) (hlb:Sn b 900000) (hb:u0<4294967296∧u1<4294967296∧v0<4294967296∧v1<4294967296) (h1:v0*b≤u0*a) (h2:u1*a≤v1*b) :
  Calls Tryz.prog 123 #[Pf u0 u1 v0 v1 true,va,vb] w fun e w'=>∃ z1 z2,e = .returned (.tuple #[z1,z2])∧Un w' z1 (u0*a-v0*b)∧Un w' z2 (v1*b-u1*a)∧Ext w w':=by
 refine Pl.aZ (n:=38) (vs:=[Pf u0 u1 v0 v1 true,va,vb]) Tryz.func123 rfl (by kernel_rfl) (by simp) ?_
 repeat refine Pl.ay ?_
 refine Pl.ak (by kernel_rfl) ?_
 refine TS rfl rfl rfl rfl rfl (fun _ _=>trivial) ?_
 intro N w1 hB1 k1
 refine Pl.aF trivial rfl rfl rfl rfl rfl ?_
 refine Pl.aF trivial rfl rfl rfl rfl rfl ?_
 refine Pl.aj ?_
 repeat refine Pl.ay ?_
 refine Pl.ak (by kernel_rfl) ?_
 refine bL trivial rfl rfl rfl rfl rfl (sQ _) ?_
 refine Pl.aH trivial rfl rfl rfl rfl rfl (Cb.Lj k1 (j:=4) rfl) ?_
 refine Pl.aj ?_
 repeat refine Pl.ay ?_
 refine Pl.cK rfl ?_
 repeat refine Pl.ay ?_
 refine Pl.iJ (S:=fun X=>Ext w1 X) [(true,0,0),(true,1,1),(true,2,3),(true,3,7),(true,4,15),(true,5,31),(true,7,63),(true,8,191),(true,9,447),(true,10,959),(true,11,1983),(true,12,4031),(false,6,8127),(false,13,8191),(true,14,16383),(true,15,32767)] fo Pl.aB (by kernel_rfl) (Ext.drew (Ext.refl w1)) ?_
 have hB2:=Ext.drew (Ext.refl w1)
 generalize w1.drew=w2 at *
 intro hS2
 have k2:=k1
 refine Pl.aA hS2 rfl rfl rfl rfl rfl ?_
 refine bL hS2 rfl rfl rfl rfl rfl (vL _) ?_
 refine Pl.aX hS2 rfl rfl rfl rfl rfl (fun X hX=>Cb.sO (j:=0) (Cb.ext k2 hX) rfl) ?_
 refine Pl.aA hS2 rfl rfl rfl rfl rfl ?_
 refine bL hS2 rfl rfl rfl rfl rfl (sP _) ?_
 refine Pl.aX hS2 rfl rfl rfl rfl rfl (fun X hX=>Cb.sO (j:=2) (Cb.ext k2 hX) rfl) ?_
 refine Pl.aA hS2 rfl rfl rfl rfl rfl ?_
 refine bL hS2 rfl rfl rfl rfl rfl (vN _) ?_
 refine Pl.aX hS2 rfl rfl rfl rfl rfl (fun X hX=>Cb.sO (j:=3) (Cb.ext k2 hX) rfl) ?_
 refine Pl.aA hS2 rfl rfl rfl rfl rfl ?_
 refine bL hS2 rfl rfl rfl rfl rfl (vM _) ?_
 refine Pl.aX hS2 rfl rfl rfl rfl rfl (fun X hX=>Cb.sO (j:=1) (Cb.ext k2 hX) rfl) ?_
 refine Pl.az rfl rfl rfl rfl rfl (fun u X=>Pl.enters Tryz.func175 (by kernel_rfl) rfl u X) ?_
 refine Calls.mono (rq _ _ _ a b u0 v0 (Un.below ha (hB1.below hB2)) (Un.below hb' (hB1.below hB2)) hla hlb hb.1 hb.2.2.1 h1) ?_
 rintro e w3 ⟨z1,rfl,hz1,hB3⟩
 have Cu:=Ext.below hS2 hB3
 refine ⟨_,rfl,Cu,?_⟩
 refine Pl.az rfl rfl rfl rfl rfl (fun u X=>Pl.enters Tryz.func175 (by kernel_rfl) rfl u X) ?_
 refine Calls.mono (rq _ _ _ b a v1 u1 (Un.below hb' (hB1.below (hB2.below hB3))) (Un.below ha (hB1.below (hB2.below hB3))) hlb hla hb.2.2.2 hb.2.1 h2) ?_
 rintro e w4 ⟨z2,rfl,hz2,hB4⟩
 have mo:=Ext.below Cu hB4
 refine ⟨_,rfl,mo,?_⟩
 refine Pl.aF mo rfl rfl rfl rfl rfl ?_
 refine Pl.aF mo rfl rfl rfl rfl rfl ?_
 refine Pl.aj ?_
 refine Pl.jy rfl rfl rfl ⟨z1,z2,rfl,Un.below hz1 hB4,hz2,hB1.below (hB2.below (hB3.below hB4))⟩
theorem Vn (w:World) (va vb:Value) (a b u0 u1 v0 v1:Nat) (ha:Un w va a) (hb':Un w vb b) (hla:Sn a 900000) (hlb:Sn b 900000) (hb:u0<4294967296∧u1<4294967296∧v0<4294967296∧v1<4294967296) (h1:u0*a≤v0*b) (h2:v1*b≤u1*a) :
  Calls Tryz.prog 123 #[Pf u0 u1 v0 v1 false,va,vb] w fun e w'=>∃ z1 z2,e = .returned (.tuple #[z1,z2])∧Un w' z1 (v0*b-u0*a)∧Un w' z2 (u1*a-v1*b)∧Ext w w':=by
 refine Pl.aZ (n:=38) (vs:=[Pf u0 u1 v0 v1 false,va,vb]) Tryz.func123 rfl (by kernel_rfl) (by simp) ?_
 repeat refine Pl.ay ?_
 refine Pl.ak (by kernel_rfl) ?_
 refine TS rfl rfl rfl rfl rfl (fun _ _=>trivial) ?_
 intro N w1 hB1 k1
 refine Pl.aF trivial rfl rfl rfl rfl rfl ?_
 refine Pl.aF trivial rfl rfl rfl rfl rfl ?_
 refine Pl.aj ?_
 repeat refine Pl.ay ?_
 refine Pl.ak (by kernel_rfl) ?_
 refine bL trivial rfl rfl rfl rfl rfl (sQ _) ?_
 refine Pl.aH trivial rfl rfl rfl rfl rfl (Cb.Lj k1 (j:=4) rfl) ?_
 refine Pl.aj ?_
 repeat refine Pl.ay ?_
 refine Pl.bn rfl ?_
 repeat refine Pl.ay ?_
 refine Pl.bM ?_
 repeat refine Pl.ay ?_
 refine Pl.iJ (S:=fun X=>Ext w1 X) [(true,0,0),(true,1,1),(true,2,3),(true,3,7),(true,4,15),(true,5,31),(true,7,63),(true,8,191),(true,9,447),(true,10,959),(true,11,1983),(true,12,4031),(false,6,8127),(false,13,8191),(true,14,16383),(true,15,32767)] fo Pl.aB (by kernel_rfl) (Ext.drew (Ext.refl w1)) ?_
 have hB2:=Ext.drew (Ext.refl w1)
 generalize w1.drew=w2 at *
 intro hS2
 have k2:=k1
 refine Pl.aA hS2 rfl rfl rfl rfl rfl ?_
 refine bL hS2 rfl rfl rfl rfl rfl (sP _) ?_
 refine Pl.aX hS2 rfl rfl rfl rfl rfl (fun X hX=>Cb.sO (j:=2) (Cb.ext k2 hX) rfl) ?_
 refine Pl.aA hS2 rfl rfl rfl rfl rfl ?_
 refine bL hS2 rfl rfl rfl rfl rfl (vL _) ?_
 refine Pl.aX hS2 rfl rfl rfl rfl rfl (fun X hX=>Cb.sO (j:=0) (Cb.ext k2 hX) rfl) ?_
 refine Pl.aA hS2 rfl rfl rfl rfl rfl ?_
 refine bL hS2 rfl rfl rfl rfl rfl (vM _) ?_
 refine Pl.aX hS2 rfl rfl rfl rfl rfl (fun X hX=>Cb.sO (j:=1) (Cb.ext k2 hX) rfl) ?_
 refine Pl.aA hS2 rfl rfl rfl rfl rfl ?_
 refine bL hS2 rfl rfl rfl rfl rfl (vN _) ?_
 refine Pl.aX hS2 rfl rfl rfl rfl rfl (fun X hX=>Cb.sO (j:=3) (Cb.ext k2 hX) rfl) ?_
 refine Pl.az rfl rfl rfl rfl rfl (fun u X=>Pl.enters Tryz.func175 (by kernel_rfl) rfl u X) ?_
 refine Calls.mono (rq _ _ _ b a v0 u0 (Un.below hb' (hB1.below hB2)) (Un.below ha (hB1.below hB2)) hlb hla hb.2.2.1 hb.1 h1) ?_
 rintro e w3 ⟨z1,rfl,hz1,hB3⟩
 have Cu:=Ext.below hS2 hB3
 refine ⟨_,rfl,Cu,?_⟩
 refine Pl.az rfl rfl rfl rfl rfl (fun u X=>Pl.enters Tryz.func175 (by kernel_rfl) rfl u X) ?_
 refine Calls.mono (rq _ _ _ a b u1 v1 (Un.below ha (hB1.below (hB2.below hB3))) (Un.below hb' (hB1.below (hB2.below hB3))) hla hlb hb.2.1 hb.2.2.2 h2) ?_
 rintro e w4 ⟨z2,rfl,hz2,hB4⟩
 have mo:=Ext.below Cu hB4
 refine ⟨_,rfl,mo,?_⟩
 refine Pl.aF mo rfl rfl rfl rfl rfl ?_
 refine Pl.aF mo rfl rfl rfl rfl rfl ?_
 refine Pl.aj ?_
 refine Pl.jy rfl rfl rfl ⟨z1,z2,rfl,Un.below hz1 hB4,hz2,hB1.below (hB2.below (hB3.below hB4))⟩
theorem MX (w:World) (va vb:Value) (a b u0 u1 v0 v1:Nat) (ev:Bool) (ha:Un w va a) (hb':Un w vb b) (hla:Sn a 900000) (hlb:Sn b 900000) (hb:u0<4294967296∧u1<4294967296∧v0<4294967296∧v1<4294967296) :
  Calls Tryz.prog 122 #[Pf u0 u1 v0 v1 ev,va,vb] w fun e w'=>∃ z1 z2,e = .returned (.tuple #[z1,z2])∧Un w' z1 (u0*a+v0*b)∧Un w' z2 (u1*a+v1*b)∧Ext w w':=by
 refine Pl.aZ (n:=25) (vs:=[Pf u0 u1 v0 v1 ev,va,vb]) Tryz.func122 rfl (by kernel_rfl) (by simp) ?_
 repeat refine Pl.ay ?_
 refine Pl.ak (by kernel_rfl) ?_
 refine TS rfl rfl rfl rfl rfl (fun _ _=>trivial) ?_
 intro N w1 hB1 k1
 refine Pl.aF trivial rfl rfl rfl rfl rfl ?_
 refine Pl.aF trivial rfl rfl rfl rfl rfl ?_
 refine Pl.aj ?_
 repeat refine Pl.ay ?_
 refine Pl.ak (by kernel_rfl) ?_
 refine Pl.aF trivial rfl rfl rfl rfl rfl ?_
 refine Pl.aj ?_
 repeat refine Pl.ay ?_
 refine Pl.iJ (S:=fun X=>Ext w1 X) [(true,0,0),(true,1,1),(true,2,3),(true,3,7),(true,4,15),(true,5,31),(true,6,63),(true,8,127),(true,9,383),(true,10,895),(true,11,1919),(true,12,3967),(true,13,8063),(true,14,16255),(false,7,32639),(false,15,32767),(true,16,65535),(true,17,131071)] fo Pl.aB (by kernel_rfl) (Ext.drew (Ext.refl w1)) ?_
 have hB2:=Ext.drew (Ext.refl w1)
 generalize w1.drew=w2 at *
 intro hS2
 have k2:=k1
 refine Pl.aA hS2 rfl rfl rfl rfl rfl ?_
 refine Pl.aA hS2 rfl rfl rfl rfl rfl ?_
 refine bL hS2 rfl rfl rfl rfl rfl (vL _) ?_
 refine Pl.aX hS2 rfl rfl rfl rfl rfl (fun X hX=>Cb.sO (j:=0) (Cb.ext k2 hX) rfl) ?_
 refine Pl.aA hS2 rfl rfl rfl rfl rfl ?_
 refine bL hS2 rfl rfl rfl rfl rfl (sP _) ?_
 refine Pl.aX hS2 rfl rfl rfl rfl rfl (fun X hX=>Cb.sO (j:=2) (Cb.ext k2 hX) rfl) ?_
 refine Pl.aA hS2 rfl rfl rfl rfl rfl ?_
 refine Pl.aA hS2 rfl rfl rfl rfl rfl ?_
 refine bL hS2 rfl rfl rfl rfl rfl (vM _) ?_
 refine Pl.aX hS2 rfl rfl rfl rfl rfl (fun X hX=>Cb.sO (j:=1) (Cb.ext k2 hX) rfl) ?_
 refine Pl.aA hS2 rfl rfl rfl rfl rfl ?_
 refine bL hS2 rfl rfl rfl rfl rfl (vN _) ?_
 refine Pl.aX hS2 rfl rfl rfl rfl rfl (fun X hX=>Cb.sO (j:=3) (Cb.ext k2 hX) rfl) ?_
 refine Pl.gG rfl rfl rfl rfl rfl rfl (fun u X=>Pl.enters Tryz.func174 (by kernel_rfl) rfl u X) ?_
 refine Calls.mono (FX _ _ _ a b u0 v0 (Un.below ha (hB1.below hB2)) (Un.below hb' (hB1.below hB2)) hla hlb hb.1 hb.2.2.1) ?_
 rintro e w3 ⟨z1,rfl,hz1,hB3⟩
 have Cu:=Ext.below hS2 hB3
 refine ⟨_,rfl,Cu,?_⟩
 refine Pl.gG rfl rfl rfl rfl rfl rfl (fun u X=>Pl.enters Tryz.func174 (by kernel_rfl) rfl u X) ?_
 refine Calls.mono (FX _ _ _ a b u1 v1 (Un.below ha (hB1.below (hB2.below hB3))) (Un.below hb' (hB1.below (hB2.below hB3))) hla hlb hb.2.1 hb.2.2.2) ?_
 rintro e w4 ⟨z2,rfl,hz2,hB4⟩
 have mo:=Ext.below Cu hB4
 refine ⟨_,rfl,mo,?_⟩
 refine Pl.aF mo rfl rfl rfl rfl rfl ?_
 refine Pl.aF mo rfl rfl rfl rfl rfl ?_
 refine Pl.aj ?_
 refine Pl.jy rfl rfl rfl ⟨z1,z2,rfl,Un.below hz1 hB4,hz2,hB1.below (hB2.below (hB3.below hB4))⟩
end Go.Proofs.YtfhcmggpojhegaaGreatDoor
