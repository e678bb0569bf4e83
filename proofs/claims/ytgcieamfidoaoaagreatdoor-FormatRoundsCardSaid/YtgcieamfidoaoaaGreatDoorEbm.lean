/- Both rests, both cofactors of many steps. -/
import Derived.Test.YtgcieamfidoaoaaGreatDoorEab
import Derived.Test.YtgcieamfidoaoaaGreatDoorEbe
import Derived.Test.YtgcieamfidoaoaaGreatDoorEbc
import Derived.Test.YtgcieamfidoaoaaGreatDoorEbl
set_option linter.all false
set_option maxHeartbeats 8000000
namespace Go.Proofs.YtgcieamfidoaoaaGreatDoor
open Go.RowKit
set_option maxRecDepth 100000
theorem Kv (w:World) (va vb:Value) (a b u0 u1 v0 v1:Nat) (ha:Un w va a) (hb':Un w vb b) (hla:Sn a 900000) (hlb:Sn b 900000) (hb:u0<4294967296∧u1<4294967296∧v0<4294967296∧v1<4294967296) (h1:v0*b≤u0*a) (h2:u1*a≤v1*b) :
  Calls Tryz.prog 220 #[JS u0 u1 v0 v1 true,va,vb] w fun e w'=>∃ z1 z2,e = .returned (.tuple #[z1,z2])∧Un w' z1 (u0*a-v0*b)∧Un w' z2 (v1*b-u1*a)∧Ext w w':=by
 refine Pl.dF (n:=38) (vs:=[JS u0 u1 v0 v1 true,va,vb]) Tryz.func220 rfl (by kernel_rfl) (by simp) ?_
 refine Pl.aab rfl ?_
 refine MK rfl rfl rfl rfl rfl (fun _ _=>trivial) ?_
 intro N w1 hB1 k1
 refine Pl.jB trivial rfl ?_
 refine Pl.aH ?_
 refine Pl.aab rfl ?_
 refine dR trivial rfl rfl rfl rfl rfl (qI _) ?_
 refine Pl.aY trivial rfl rfl rfl rfl rfl (Cb.F8 k1 (j:=4) rfl) ?_
 refine Pl.aH ?_
 repeat refine Pl.aG ?_
 refine Pl.jV rfl ?_
 repeat refine Pl.aG ?_
 refine Pl.qc (S:=fun X=>Ext w1 X) [(true,0,0),(true,1,1),(true,2,3),(true,3,7),(true,4,15),(true,5,31),(true,7,63),(true,8,191),(true,9,447),(true,10,959),(true,11,1983),(true,12,4031),(false,6,8127),(false,13,8191),(true,14,16383),(true,15,32767)] fo Pl.gQ (by kernel_rfl) (Ext.drew (Ext.refl w1)) ?_
 have hB2:=Ext.drew (Ext.refl w1)
 generalize w1.drew=w2 at *
 intro hS2
 have k2:=k1
 refine Pl.jB hS2 rfl ?_
 refine dR hS2 rfl rfl rfl rfl rfl (tZ _) ?_
 refine Pl.iH hS2 rfl rfl rfl rfl rfl (fun X hX=>Cb.qG (j:=0) (Cb.ext k2 hX) rfl) ?_
 refine Pl.jB hS2 rfl ?_
 refine dR hS2 rfl rfl rfl rfl rfl (qH _) ?_
 refine Pl.iH hS2 rfl rfl rfl rfl rfl (fun X hX=>Cb.qG (j:=2) (Cb.ext k2 hX) rfl) ?_
 refine Pl.jB hS2 rfl ?_
 refine dR hS2 rfl rfl rfl rfl rfl (ug _) ?_
 refine Pl.iH hS2 rfl rfl rfl rfl rfl (fun X hX=>Cb.qG (j:=3) (Cb.ext k2 hX) rfl) ?_
 refine Pl.jB hS2 rfl ?_
 refine dR hS2 rfl rfl rfl rfl rfl (uf _) ?_
 refine Pl.iH hS2 rfl rfl rfl rfl rfl (fun X hX=>Cb.qG (j:=1) (Cb.ext k2 hX) rfl) ?_
 refine Pl.bX rfl rfl rfl rfl rfl (Pl.en Tryz.func239) ?_
 refine Calls.mono (pY _ _ _ a b u0 v0 (Un.below ha (hB1.below hB2)) (Un.below hb' (hB1.below hB2)) hla hlb hb.1 hb.2.2.1 h1) ?_
 rintro e w3 ⟨z1,rfl,hz1,hB3⟩
 have DV:=Ext.below hS2 hB3
 refine ⟨_,rfl,DV,?_⟩
 refine Pl.bX rfl rfl rfl rfl rfl (Pl.en Tryz.func239) ?_
 refine Calls.mono (pY _ _ _ b a v1 u1 (Un.below hb' (hB1.below (hB2.below hB3))) (Un.below ha (hB1.below (hB2.below hB3))) hlb hla hb.2.2.2 hb.2.1 h2) ?_
 rintro e w4 ⟨z2,rfl,hz2,hB4⟩
 have zY:=Ext.below DV hB4
 refine ⟨_,rfl,zY,?_⟩
 refine Pl.jB zY rfl ?_
 refine Pl.aH ?_
 refine Pl.qE rfl rfl rfl ⟨z1,z2,rfl,Un.below hz1 hB4,hz2,hB1.below (hB2.below (hB3.below hB4))⟩
theorem Ou (w:World) (va vb:Value) (a b u0 u1 v0 v1:Nat) (ha:Un w va a) (hb':Un w vb b) (hla:Sn a 900000) (hlb:Sn b 900000) (hb:u0<4294967296∧u1<4294967296∧v0<4294967296∧v1<4294967296) (h1:u0*a≤v0*b) (h2:v1*b≤u1*a) :
  Calls Tryz.prog 220 #[JS u0 u1 v0 v1 false,va,vb] w fun e w'=>∃ z1 z2,e = .returned (.tuple #[z1,z2])∧Un w' z1 (v0*b-u0*a)∧Un w' z2 (u1*a-v1*b)∧Ext w w':=by
 refine Pl.dF (n:=38) (vs:=[JS u0 u1 v0 v1 false,va,vb]) Tryz.func220 rfl (by kernel_rfl) (by simp) ?_
 refine Pl.aab rfl ?_
 refine MK rfl rfl rfl rfl rfl (fun _ _=>trivial) ?_
 intro N w1 hB1 k1
 refine Pl.jB trivial rfl ?_
 refine Pl.aH ?_
 refine Pl.aab rfl ?_
 refine dR trivial rfl rfl rfl rfl rfl (qI _) ?_
 refine Pl.aY trivial rfl rfl rfl rfl rfl (Cb.F8 k1 (j:=4) rfl) ?_
 refine Pl.aH ?_
 repeat refine Pl.aG ?_
 refine Pl.gX rfl ?_
 repeat refine Pl.aG ?_
 refine Pl.iT ?_
 repeat refine Pl.aG ?_
 refine Pl.qc (S:=fun X=>Ext w1 X) [(true,0,0),(true,1,1),(true,2,3),(true,3,7),(true,4,15),(true,5,31),(true,7,63),(true,8,191),(true,9,447),(true,10,959),(true,11,1983),(true,12,4031),(false,6,8127),(false,13,8191),(true,14,16383),(true,15,32767)] fo Pl.gQ (by kernel_rfl) (Ext.drew (Ext.refl w1)) ?_
 have hB2:=Ext.drew (Ext.refl w1)
 generalize w1.drew=w2 at *
 intro hS2
 have k2:=k1
 refine Pl.jB hS2 rfl ?_
 refine dR hS2 rfl rfl rfl rfl rfl (qH _) ?_
 refine Pl.iH hS2 rfl rfl rfl rfl rfl (fun X hX=>Cb.qG (j:=2) (Cb.ext k2 hX) rfl) ?_
 refine Pl.jB hS2 rfl ?_
 refine dR hS2 rfl rfl rfl rfl rfl (tZ _) ?_
 refine Pl.iH hS2 rfl rfl rfl rfl rfl (fun X hX=>Cb.qG (j:=0) (Cb.ext k2 hX) rfl) ?_
 refine Pl.jB hS2 rfl ?_
 refine dR hS2 rfl rfl rfl rfl rfl (uf _) ?_
 refine Pl.iH hS2 rfl rfl rfl rfl rfl (fun X hX=>Cb.qG (j:=1) (Cb.ext k2 hX) rfl) ?_
 refine Pl.jB hS2 rfl ?_
 refine dR hS2 rfl rfl rfl rfl rfl (ug _) ?_
 refine Pl.iH hS2 rfl rfl rfl rfl rfl (fun X hX=>Cb.qG (j:=3) (Cb.ext k2 hX) rfl) ?_
 refine Pl.bX rfl rfl rfl rfl rfl (Pl.en Tryz.func239) ?_
 refine Calls.mono (pY _ _ _ b a v0 u0 (Un.below hb' (hB1.below hB2)) (Un.below ha (hB1.below hB2)) hlb hla hb.2.2.1 hb.1 h1) ?_
 rintro e w3 ⟨z1,rfl,hz1,hB3⟩
 have DV:=Ext.below hS2 hB3
 refine ⟨_,rfl,DV,?_⟩
 refine Pl.bX rfl rfl rfl rfl rfl (Pl.en Tryz.func239) ?_
 refine Calls.mono (pY _ _ _ a b u1 v1 (Un.below ha (hB1.below (hB2.below hB3))) (Un.below hb' (hB1.below (hB2.below hB3))) hla hlb hb.2.1 hb.2.2.2 h2) ?_
 rintro e w4 ⟨z2,rfl,hz2,hB4⟩
 have zY:=Ext.below DV hB4
 refine ⟨_,rfl,zY,?_⟩
 refine Pl.jB zY rfl ?_
 refine Pl.aH ?_
 refine Pl.qE rfl rfl rfl ⟨z1,z2,rfl,Un.below hz1 hB4,hz2,hB1.below (hB2.below (hB3.below hB4))⟩
theorem IJ (w:World) (va vb:Value) (a b u0 u1 v0 v1:Nat) (ev:Bool) (ha:Un w va a) (hb':Un w vb b) (hla:Sn a 900000) (hlb:Sn b 900000) (hb:u0<4294967296∧u1<4294967296∧v0<4294967296∧v1<4294967296) :
  Calls Tryz.prog 219 #[JS u0 u1 v0 v1 ev,va,vb] w fun e w'=>∃ z1 z2,e = .returned (.tuple #[z1,z2])∧Un w' z1 (u0*a+v0*b)∧Un w' z2 (u1*a+v1*b)∧Ext w w':=by
 refine Pl.dF (n:=25) (vs:=[JS u0 u1 v0 v1 ev,va,vb]) Tryz.func219 rfl (by kernel_rfl) (by simp) ?_
 refine Pl.aab rfl ?_
 refine MK rfl rfl rfl rfl rfl (fun _ _=>trivial) ?_
 intro N w1 hB1 k1
 refine Pl.jB trivial rfl ?_
 refine Pl.aH ?_
 refine Pl.aab rfl ?_
 refine Pl.jB trivial rfl ?_
 refine Pl.aH ?_
 repeat refine Pl.aG ?_
 refine Pl.qc (S:=fun X=>Ext w1 X) [(true,0,0),(true,1,1),(true,2,3),(true,3,7),(true,4,15),(true,5,31),(true,6,63),(true,8,127),(true,9,383),(true,10,895),(true,11,1919),(true,12,3967),(true,13,8063),(true,14,16255),(false,7,32639),(false,15,32767),(true,16,65535),(true,17,131071)] fo Pl.gQ (by kernel_rfl) (Ext.drew (Ext.refl w1)) ?_
 have hB2:=Ext.drew (Ext.refl w1)
 generalize w1.drew=w2 at *
 intro hS2
 have k2:=k1
 refine Pl.jB hS2 rfl ?_
 refine dR hS2 rfl rfl rfl rfl rfl (tZ _) ?_
 refine Pl.iH hS2 rfl rfl rfl rfl rfl (fun X hX=>Cb.qG (j:=0) (Cb.ext k2 hX) rfl) ?_
 refine Pl.jB hS2 rfl ?_
 refine dR hS2 rfl rfl rfl rfl rfl (qH _) ?_
 refine Pl.iH hS2 rfl rfl rfl rfl rfl (fun X hX=>Cb.qG (j:=2) (Cb.ext k2 hX) rfl) ?_
 refine Pl.jB hS2 rfl ?_
 refine dR hS2 rfl rfl rfl rfl rfl (uf _) ?_
 refine Pl.iH hS2 rfl rfl rfl rfl rfl (fun X hX=>Cb.qG (j:=1) (Cb.ext k2 hX) rfl) ?_
 refine Pl.jB hS2 rfl ?_
 refine dR hS2 rfl rfl rfl rfl rfl (ug _) ?_
 refine Pl.iH hS2 rfl rfl rfl rfl rfl (fun X hX=>Cb.qG (j:=3) (Cb.ext k2 hX) rfl) ?_
 refine Pl.gY rfl rfl rfl rfl rfl rfl (Pl.en Tryz.func238) ?_
 refine Calls.mono (CY _ _ _ a b u0 v0 (Un.below ha (hB1.below hB2)) (Un.below hb' (hB1.below hB2)) hla hlb hb.1 hb.2.2.1) ?_
 rintro e w3 ⟨z1,rfl,hz1,hB3⟩
 have DV:=Ext.below hS2 hB3
 refine ⟨_,rfl,DV,?_⟩
 refine Pl.gY rfl rfl rfl rfl rfl rfl (Pl.en Tryz.func238) ?_
 refine Calls.mono (CY _ _ _ a b u1 v1 (Un.below ha (hB1.below (hB2.below hB3))) (Un.below hb' (hB1.below (hB2.below hB3))) hla hlb hb.2.1 hb.2.2.2) ?_
 rintro e w4 ⟨z2,rfl,hz2,hB4⟩
 have zY:=Ext.below DV hB4
 refine ⟨_,rfl,zY,?_⟩
 refine Pl.jB zY rfl ?_
 refine Pl.aH ?_
 refine Pl.qE rfl rfl rfl ⟨z1,z2,rfl,Un.below hz1 hB4,hz2,hB1.below (hB2.below (hB3.below hB4))⟩
end Go.Proofs.YtgcieamfidoaoaaGreatDoor
