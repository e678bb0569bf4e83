/- The document's whole numbers: made, turned, ordered. -/
import Derived.Test.YtdpmbgomcjnohaaGreatDoorBaq
import Derived.Test.YtdpmbgomcjnohaaGreatDoorBap
import Derived.Test.YtdpmbgomcjnohaaGreatDoorBau
import Derived.Test.YtdpmbgomcjnohaaGreatDoorBar
import Derived.Test.YtdpmbgomcjnohaaGreatDoorBaj
import Derived.Test.YtdpmbgomcjnohaaGreatDoorBat
import Derived.Deep.RegionHeld3

namespace Go.Proofs.YtdpmbgomcjnohaaGreatDoor
open Go.RowKit
set_option linter.unusedVariables false
set_option maxHeartbeats 400000
set_option maxRecDepth 100000 in
theorem eY (w:World) (b:Bool) (v:Value) (xs:List Nat) (hu:U w v xs) (hlen:xs.length≤1000000000) (n:Nat) (hn:val xs=n) (z:Int) (hz:sg b n=z) :
  Calls Tryz.prog 62 #[.bool b,v] w fun e w'=>∃ u,e = .returned u∧Zn w' u z∧Ext w w':=by
 have hM:=Lib.hid (fun W h=>zV W v xs h hlen n hn)
 have hE0:=(Ext.refl w).alloc (.cells #[.bool false,.slice none 0 0] 24)
 have hI0:=Ib.new w false (.slice none 0 0) 24
 have hu0:=hu.below hE0
 have hza:z.natAbs=n:=by rw [← hz,sG]
 have hzn:decide (z<0)=(b&&decide (0<n)):=by rw [← hz,JU]
 obtain ⟨L,hL⟩:∃ L,(limbs n).length=L:=⟨_,rfl⟩
 have hc:=nK n
 rw [hL] at hc
 have HL:=Lib.hid hL
 have HZ:=Lib.hid (And.intro hza hzn)
 obtain ⟨A0,c0,rfl,-⟩:=id hu
 obtain ⟨l0,hl0⟩:∃ l,xs.length=l:=⟨_,rfl⟩
 rw [hl0] at hM hu0 ⊢
 clear hl0
 clear hz hn hL hza hzn
 rcases hc with ⟨h1,rfl⟩ | ⟨h1,h2⟩
 · subst h1
   cases b
   all_goals (
    go_enter Tryz.func62,Tryz.ntmps62
    go_wp2_with (go_at_call 100;refine (hM.out _ hu0).mono ?_;rintro e w2 ⟨u,rfl,hu2,hE2⟩;obtain ⟨A,c,rfl,hc⟩:=Un.sh hu2;rw [HL.out] at hu2 ⊢;clear hc;have hI2:=hI0.ext hE2;obtain ⟨i0,i1,i2,i3,i4⟩:=id hI2)
    (try simp only [Exit.inBlock,Exit.then])
    refine bodyPost_ret (v:=.agg #[.bool false,.slice A 0 c]) (show (results _ _).run _ _=_ from ?_) rfl ⟨_,rfl,Zn.mk' (Un.bW hu2 hI2 (aM _ _ _) _ _) HL.out HZ.out.1 HZ.out.2,(hE0.below hE2).bW (Nat.le_refl _) _ _⟩
    simp only [results]
    go_simp)
 · have h3:(0:Int)<(L:Int):=by omega
   have hb0:Hid (decide (0<n)=true):=decide_eq_true (by omega)
   cases b
   case' false=>have HS:Hid (decide (z<0)=false):=by show _=_;rw [HZ.out.2];rfl
   case' true=>have HS:Hid (decide (z<0)=true):=by show _=_;rw [HZ.out.2,hb0.out];rfl
   all_goals (
    go_enter Tryz.func62,Tryz.ntmps62
    go_wp2_with (go_at_call 100;refine (hM.out _ hu0).mono ?_;rintro e w2 ⟨u,rfl,hu2,hE2⟩;obtain ⟨A,c,rfl,hc⟩:=Un.sh hu2;rw [HL.out] at hu2 ⊢;clear hc;have hI2:=hI0.ext hE2;obtain ⟨i0,i1,i2,i3,i4⟩:=id hI2)
    (try simp only [Exit.inBlock,Exit.then])
    refine bodyPost_ret (v:=.agg #[.bool _,.slice A L c]) (show (results _ _).run _ _=_ from ?_) rfl ⟨_,rfl,Zn.mk' (Un.bW hu2 hI2 (aM _ _ _) _ _) HL.out HZ.out.1 HS.out,(hE0.below hE2).bW (Nat.le_refl _) _ _⟩
    simp only [results]
    go_simp)
set_option maxRecDepth 100000 in
theorem D7 (w:World) (v:Value) (z:Int) (h:Zn w v z) (hlz:(limbs z.natAbs).length≤1000000) (y:Int) (hy : -z=y) :
  Calls Tryz.prog 72 #[v] w fun e w'=>∃ u,e = .returned u∧Zn w' u y∧Ext w w':=by
 obtain ⟨b,A,L,c,n,rfl,hu,hL,hz,hb,hza,hzn⟩:=h.open
 have hE0:=((Ext.refl w).alloc (.cells #[.bool b,.slice A L c] 24)).alloc (.cells #[.bool false,.slice none 0 0] 24)
 have hI0:=Ib.new2 w (.cells #[.bool b,.slice A L c] 24) false (.slice none 0 0) 24
 have gY:=(Ib.new w b (.slice A L c) 24).ext ((Ext.refl _).alloc (.cells #[.bool false,.slice none 0 0] 24))
 have hu0:=hu.below hE0
 have hM:=Lib.hid (fun W h=>eY W (!b) (.slice A L c) (limbs n) h (by rw [hza] at hlz;omega) n (aH n) y (by rw [PM,← hz];exact hy))
 obtain ⟨p0,p1,p2,p3,p4⟩:=id gY
 clear hlz hz hb hza hzn hL hy h
 go_enter Tryz.func72,Tryz.ntmps72
 go_wp2_with (go_at_call 62;refine (hM.out _ hu0).mono ?_;rintro e w2 ⟨u,rfl,hz2,hE2⟩;obtain ⟨b2,A2,L2,c2,rfl⟩:=hz2.sh;have hI2:=hI0.ext hE2;obtain ⟨i0,i1,i2,i3,i4⟩:=id hI2)
 (try simp only [Exit.inBlock,Exit.then])
 refine bodyPost_ret (v:=.agg #[.bool b2,.slice A2 L2 c2]) (show (results _ _).run _ _=_ from ?_) rfl ⟨_,rfl,hz2.bW hI2 (aM _ _ _) _ _,(hE0.below hE2).bW (by simp) _ _⟩
 simp only [results]
 go_simp
set_option maxRecDepth 100000 in
set_option maxHeartbeats 4000000 in
theorem VL (w:World) (k:Int) (h0:0≤k) (h1:k<18446744073709551616) (n:Nat) (hn:k.toNat=n) :
  Calls Tryz.prog 94 #[.int .u64 k] w fun e w'=>∃ u,e = .returned u∧Un w' u n∧Ext w w':=by
 obtain ⟨m,rfl⟩:=Int.eq_ofNat_of_zero_le h0
 rw [Int.toNat_natCast] at hn
 subst hn
 obtain ⟨r,hr⟩:∃ r,m%4294967296=r:=⟨_,rfl⟩
 obtain ⟨q,hq⟩:∃ q,m/4294967296=q:=⟨_,rfl⟩
 have hrb:r<4294967296:=by omega
 have LM:q<4294967296:=by omega
 have hv:val [r,q]=m:=by simp only [val];omega
 have hu:=Lib.hid (fun W=>LP W [r,q] (by simp;omega) (by simp))
 have o1:(m:Int).tmod 4294967296=(r:Int):=by rw [Int.tmod_eq_emod_of_nonneg (Int.natCast_nonneg _)];omega
 have o2:(m:Int)%4294967296=(r:Int):=by omega
 have o3:(m:Int).tdiv 4294967296=(q:Int):=by rw [Int.tdiv_eq_ediv_of_nonneg (Int.natCast_nonneg _)];omega
 have o4:(m:Int)/4294967296=(q:Int):=by omega
 have o5:(r:Int)%4294967296=(r:Int):=by omega
 have o6:(q:Int)%4294967296=(q:Int):=by omega
 have o7:IntKind.u32.wrap (r:Int)=(r:Int):=by rw [IntKind.wrap_u32];omega
 have o8:IntKind.u32.wrap (q:Int)=(q:Int):=by rw [IntKind.wrap_u32];omega
 have o9:IntKind.u64.wrap (q:Int)=(q:Int):=by rw [IntKind.wrap_u64];omega
 have hM:=Lib.hid (fun W v h=>zV W v [r,q] h (by simp) m hv)
 clear hr hq hv h0
 go_enter Tryz.func94,Tryz.ntmps94
 go_wp2_with (go_at_call 100;refine (hM.out _ _ (hu.out w)).mono ?_;rintro e w2 ⟨u,rfl,hu2,hE2⟩;obtain ⟨A2,c2,rfl,-⟩:=Un.sh hu2)
 go_ret
 exact ⟨_,rfl,hu2,((Ext.refl w).alloc _).below hE2⟩
set_option maxRecDepth 100000 in
theorem uG (w:World) (z:Int) (h1 : -9223372036854775808≤z) (h2:z≤9223372036854775807) :
  Calls Tryz.prog 53 #[.int .i64 z] w fun e w'=>∃ u,e = .returned u∧Zn w' u z∧Ext w w':=by
 have hE0:=(Ext.refl w).alloc (.cells #[.bool false,.slice none 0 0] 24)
 have hI0:=Ib.new w false (.slice none 0 0) 24
 by_cases h0:z<0
 · obtain ⟨m,hm⟩:∃ m:Nat,-z=(m:Int):=⟨(-z).toNat,by omega⟩
   obtain ⟨k,hk⟩:∃ k:Nat,z+18446744073709551616=(k:Int):=⟨(z+18446744073709551616).toNat,by omega⟩
   have o1:z%18446744073709551616=(k:Int):=by omega
   have o2:IntKind.u64.wrap z=(k:Int):=by rw [IntKind.wrap_u64];omega
   have o3:(-(k:Int))%18446744073709551616=(m:Int):=by omega
   have o4:IntKind.u64.wrap (-(k:Int))=(m:Int):=by rw [IntKind.wrap_u64];omega
   have hM:=Lib.hid (fun W v h=>eY W true v (limbs m) h (by have:=iO (k:=2) (show m<LB^2 by unfold LB;omega);omega) m (aH m) z (by rw [uf];omega))
   have XA:=Lib.hid (fun W=>VL W (m:Int) (by omega) (by omega) m (by simp))
   clear hm hk
   go_enter Tryz.func53,Tryz.ntmps53
   go_wp2_with (first
    | (go_at_call 94;refine (XA.out _).mono ?_;rintro e w2 ⟨u,rfl,hu2,hE2⟩;obtain ⟨A2,c2,rfl,hc2⟩:=Un.sh hu2)
    | (go_at_call 62;refine (hM.out _ _ hu2).mono ?_;rintro e w3 ⟨u,rfl,hz3,aJ⟩;obtain ⟨b3,A3,L3,c3,rfl⟩:=hz3.sh;have jl:=(hI0.ext hE2).ext aJ;obtain ⟨i0,i1,i2,i3,i4⟩:=id jl))
   (try simp only [Exit.inBlock,Exit.then])
   refine bodyPost_ret (v:=.agg #[.bool b3,.slice A3 L3 c3]) (show (results _ _).run _ _=_ from ?_) rfl ⟨_,rfl,hz3.bW jl (aM _ _ _) _ _,((hE0.below hE2).below aJ).bW (by simp) _ _⟩
   simp only [results]
   go_simp
 · obtain ⟨m,rfl⟩:=Int.eq_ofNat_of_zero_le (show 0≤z by omega)
   have o1:(m:Int)%18446744073709551616=(m:Int):=by omega
   have o2:IntKind.u64.wrap (m:Int)=(m:Int):=by rw [IntKind.wrap_u64];omega
   have hM:=Lib.hid (fun W v h=>eY W false v (limbs m) h (by have:=iO (k:=2) (show m<LB^2 by unfold LB;omega);omega) m (aH m) (m:Int) rfl)
   have XA:=Lib.hid (fun W=>VL W (m:Int) (by omega) (by omega) m (by simp))
   go_enter Tryz.func53,Tryz.ntmps53
   go_wp2_with (first
    | (go_at_call 94;refine (XA.out _).mono ?_;rintro e w2 ⟨u,rfl,hu2,hE2⟩;obtain ⟨A2,c2,rfl,hc2⟩:=Un.sh hu2)
    | (go_at_call 62;refine (hM.out _ _ hu2).mono ?_;rintro e w3 ⟨u,rfl,hz3,aJ⟩;obtain ⟨b3,A3,L3,c3,rfl⟩:=hz3.sh;have jl:=(hI0.ext hE2).ext aJ;obtain ⟨i0,i1,i2,i3,i4⟩:=id jl))
   (try simp only [Exit.inBlock,Exit.then])
   refine bodyPost_ret (v:=.agg #[.bool b3,.slice A3 L3 c3]) (show (results _ _).run _ _=_ from ?_) rfl ⟨_,rfl,hz3.bW jl (aM _ _ _) _ _,((hE0.below hE2).below aJ).bW (by simp) _ _⟩
   simp only [results]
   go_simp
set_option maxRecDepth 100000 in
set_option maxHeartbeats 8000000 in
theorem Bi (w:World) (va vb:Value) (a b:Int) (ha:Zn w va a) (hb:Zn w vb b) (hl:(limbs a.natAbs).length≤1000000) (hl2:(limbs b.natAbs).length≤1000000) (k:Int) (hk:bZ a b=k) :
  Calls Tryz.prog 89 #[va,vb] w fun e w'=>e = .returned (.int .i64 k)∧Ext w w':=by
 obtain ⟨p,A,L,c,n,rfl,hu,hL,hz,-,hza,hzn⟩:=ha.open
 obtain ⟨q,B,K,d,m,rfl,hv,hK,hz2,-,jr,lK⟩:=hb.open
 rw [hza] at hl
 rw [jr] at hl2
 have hE0:=((Ext.refl w).alloc (.cells #[.bool p,.slice A L c] 24)).alloc (.cells #[.bool q,.slice B K d] 24)
 have hu0:=hu.below hE0
 have hv0:=hv.below hE0
 have Im:decide (a<0)=p:=hzn
 have Ip:decide (b<0)=q:=lK
 cases p<;>cases q
 case' false.false =>
  have hC:=Lib.hid (Kv _ (.slice A L c) (.slice B K d) n m hu0 hv0 (by omega) (by omega) k (by
   have h1:=of_decide_eq_false Im
   have h2:=of_decide_eq_false Ip
   rw [← hk,show a=(n:Int) by omega,show b=(m:Int) by omega]))
 case' true.true =>
  have hC:=Lib.hid (Kv _ (.slice B K d) (.slice A L c) m n hv0 hu0 (by omega) (by omega) k (by
   have h1:=of_decide_eq_true Im
   have h2:=of_decide_eq_true Ip
   rw [← hk,show a = -(n:Int) by omega,show b = -(m:Int) by omega]
   unfold bZ;(repeat' split)<;>omega))
 case' true.false =>
  have hkk:k = -1:=by
   have h1:=of_decide_eq_true Im
   have h2:=of_decide_eq_false Ip
   rw [← hk];exact if_pos (by omega)
  subst hkk
 case' false.true =>
  have hkk:k=1:=by
   have h1:=of_decide_eq_false Im
   have h2:=of_decide_eq_true Ip
   rw [← hk];unfold bZ;rw [if_neg (by omega),if_pos (by omega)]
  subst hkk
 all_goals (
  clear hl hl2 hza hzn jr lK hz hz2 hL hK ha hb hu hv hk Im Ip hu0 hv0
  go_enter Tryz.func89,Tryz.ntmps89
  go_wp2_with (go_at_call 79;refine hC.out.mono ?_;rintro e w2 ⟨rfl,hE2⟩)
  go_ret
  exact ⟨rfl,by first | exact hE0.below hE2 | exact hE0⟩)
theorem Iq (a b:Int):bZ a b=0↔a=b:=by unfold bZ;(repeat' split)<;>omega
set_option maxRecDepth 100000 in
set_option maxHeartbeats 8000000 in
theorem Cu (w:World) (va vb:Value) (a b:Int) (ha:Zn w va a) (hb:Zn w vb b) (hl:(limbs a.natAbs).length≤1000000) (hl2:(limbs b.natAbs).length≤1000000) (r:Bool) (hr:decide (a=b)=r) :
  Calls Tryz.prog 43 #[va,vb] w fun e w'=>e = .returned (.bool r)∧Ext w w':=by
 have ha':=ha
 have hb':=hb
 obtain ⟨p,A,L,c,n,rfl,-,-,-,-,-,hzn⟩:=ha.open
 obtain ⟨q,B,K,d,m,rfl,-,-,-,-,-,lK⟩:=hb.open
 have hE0:=((Ext.refl w).alloc (.cells #[.bool p,.slice A L c] 24)).alloc (.cells #[.bool q,.slice B K d] 24)
 have gY:=(Ib.new w p (.slice A L c) 24).ext ((Ext.refl _).alloc (.cells #[.bool q,.slice B K d] 24))
 have nY:=Ib.new2 w (.cells #[.bool p,.slice A L c] 24) q (.slice B K d) 24
 obtain ⟨k,hk⟩:∃ k,bZ a b=k:=⟨_,rfl⟩
 have hC:=Lib.hid (Bi _ _ _ a b (ha'.below hE0) (hb'.below hE0) hl hl2 k hk)
 by_cases hab:a=b
 · rw [decide_eq_true hab] at hr
   subst hr
   have hk0:k=0:=by rw [← hk];exact (Iq a b).2 hab
   have hpq:p=q:=by rw [← hzn,← lK,hab]
   subst hk0
   subst hpq
   clear hk hab hzn lK hl hl2 ha hb ha' hb'
   cases p
   all_goals (
    go_enter Tryz.func43,Tryz.ntmps43
    go_wp2_with (go_at_call 89;refine hC.out.mono ?_;rintro e w2 ⟨rfl,hE2⟩;obtain ⟨p0,p1,p2,p3,p4⟩:=gY.ext hE2;obtain ⟨q0,q1,q2,q3,q4⟩:=nY.ext hE2)
    go_ret
    exact ⟨by first | rfl | simp,hE0.below hE2⟩)
 · rw [decide_eq_false hab] at hr
   subst hr
   have hk0:(k==0)=false:=by
    rw [beq_eq_false_iff_ne]
    intro h
    exact hab ((Iq a b).1 (hk.trans h))
   clear hk hab hzn lK hl hl2 ha hb ha' hb'
   go_enter Tryz.func43,Tryz.ntmps43
   go_wp2_with (go_at_call 89;refine hC.out.mono ?_;rintro e w2 ⟨rfl,hE2⟩;obtain ⟨p0,p1,p2,p3,p4⟩:=gY.ext hE2;obtain ⟨q0,q1,q2,q3,q4⟩:=nY.ext hE2)
   go_ret
   exact ⟨by first | rfl | simp,hE0.below hE2⟩
end Go.Proofs.YtdpmbgomcjnohaaGreatDoor
/- The document's sums, differences, products. -/
namespace Go.Proofs.YtdpmbgomcjnohaaGreatDoor
open Go.RowKit
set_option linter.unusedVariables false
set_option maxHeartbeats 400000
theorem qI (n m:Nat):(limbs (n*m)).length≤(limbs n).length+(limbs m).length:=by
 refine iO ?_
 rw [Nat.pow_add]
 exact Nat.mul_lt_mul'' (cO (Nat.le_refl _)) (cO (Nat.le_refl _))
end Go.Proofs.YtdpmbgomcjnohaaGreatDoor
/- The document's quotients. -/
namespace Go.Proofs.YtdpmbgomcjnohaaGreatDoor
open Go.RowKit
set_option linter.unusedVariables false
set_option maxHeartbeats 400000
set_option maxRecDepth 100000 in
set_option maxHeartbeats 16000000 in
theorem wS (w:World) (va vb:Value) (a b:Int) (ha:Zn w va a) (hb:Zn w vb b) (hl:(limbs a.natAbs).length≤200) (hl2:(limbs b.natAbs).length≤200) (h0:b≠0) (x y:Int) (hx:a/b=x) (hy:a%b=y) :
  Calls Tryz.prog 93 #[va,vb] w fun e w'=>ZN w w' e x y:=by
 unfold ZN
 obtain ⟨p,A,L,c,n,rfl,hu,hL,hz,-,hza,hzn⟩:=ha.open
 obtain ⟨q,B,K,d,m,rfl,hv,hK,hz2,-,jr,lK⟩:=hb.open
 rw [hza] at hl
 rw [jr] at hl2
 have hm0:m≠0:=by omega
 obtain ⟨Q,hQ⟩:∃ Q,n/m=Q:=⟨_,rfl⟩
 obtain ⟨R,hR⟩:∃ R,n%m=R:=⟨_,rfl⟩
 have hQl:(limbs Q).length≤200:=Nat.le_trans (fC (by rw [← hQ];exact Nat.div_le_self _ _)) hl
 have ZO:R<m:=by rw [← hR];exact Nat.mod_lt _ (by omega)
 have hRl:(limbs R).length≤200:=Nat.le_trans (fC (by omega)) hl2
 have hE0:=((((Ext.refl w).alloc (.cells #[.bool p,.slice A L c] 24)).alloc (.cells #[.bool q,.slice B K d] 24)).alloc (.cells #[.bool false,.slice none 0 0] 24)).alloc (.cells #[.bool false,.slice none 0 0] 24)
 have hI0:=(Ib.rW w (.cells #[.bool p,.slice A L c] 24) (.cells #[.bool q,.slice B K d] 24) false (.slice none 0 0) 24).ext ((Ext.refl _).alloc (.cells #[.bool false,.slice none 0 0] 24))
 have hJ0:=Ib.rW (w.alloc (.cells #[.bool p,.slice A L c] 24)) (.cells #[.bool q,.slice B K d] 24) (.cells #[.bool false,.slice none 0 0] 24) false (.slice none 0 0) 24
 have hN:(w.alloc (.cells #[.bool p,.slice A L c] 24)).heap.size=w.heap.size+1:=by simp
 rw [hN] at hJ0
 have gY:=(Ib.new w p (.slice A L c) 24).ext ((((Ext.refl _).alloc (.cells #[.bool q,.slice B K d] 24)).alloc (.cells #[.bool false,.slice none 0 0] 24)).alloc (.cells #[.bool false,.slice none 0 0] 24))
 have nY:=(Ib.new2 w (.cells #[.bool p,.slice A L c] 24) q (.slice B K d) 24).ext (((Ext.refl _).alloc (.cells #[.bool false,.slice none 0 0] 24)).alloc (.cells #[.bool false,.slice none 0 0] 24))
 have hD:=Lib.hid (Vz _ (.slice A L c) (.slice B K d) n m Q R (hu.below hE0) (hv.below hE0) hl hl2 hm0 hQ hR)
 have hv0:=hv.below hE0
 have hcs:=nK R
 obtain ⟨LR,Uq⟩:∃ L,(limbs R).length=L:=⟨_,rfl⟩
 have ZP:=Lib.hid Uq
 rw [Uq] at hcs
 by_cases hsp:p=true∧R≠0
 · obtain ⟨rfl,hR0⟩:=hsp
   obtain ⟨k1,k2⟩:=Ct q n m hm0 (by rw [hR];exact hR0)
   rw [hQ,← hz,← hz2,hx] at k1
   rw [hR,← hz,← hz2,hy] at k2
   rw [show (!(true==q)) = !q by cases q<;>rfl] at k1
   have VB:(limbs (Q+1)).length≤1000000000:=by
    have:=fC (show Q+1≤Q+Q+1 by omega)
    have h5:=qI (Q+1) 1
    have h6:(limbs (Q+1)).length≤(limbs Q).length+1:=by
     refine iO ?_
     have h7:Q<LB^(limbs Q).length:=cO (Nat.le_refl _)
     rw [Nat.pow_succ]
     have h8:LB^(limbs Q).length*2≤LB^(limbs Q).length*LB:=Nat.mul_le_mul_left _ (by unfold LB;decide)
     omega
    omega
   have hmR:(limbs (m-R)).length≤1000000000:=by have:=fC (show m-R≤m by omega);omega
   have hAd:=Lib.hid (fun W v u h g=>EO W v u Q 1 h g (by omega) (by have:=GJ;have h5:=iO (k:=1) (show 1<LB^1 by unfold LB;decide);omega) (Q+1) rfl)
   have hSb:=Lib.hid (fun W v h g=>pF W (.slice B K d) v m R h g (by omega) (by omega) true (decide_eq_true (by omega)) (m-R) rfl)
   have hM1:=Lib.hid (fun W v (h:Un W v (Q+1))=>eY W (!q) v (limbs (Q+1)) h VB (Q+1) (aH _) x k1)
   have hM2:=Lib.hid (fun W v (h:Un W v (m-R))=>eY W false v (limbs (m-R)) h hmR (m-R) (aH _) y k2)
   have hlr:¬ (LR=0):=by omega
   have adF:((LR:Int)==0)=false:=by rw [beq_eq_false_iff_ne];omega
   clear hl hl2 hza hzn jr lK hz hz2 hL hK ha hb hu hv hN hx hy hQ hR h0 hm0 hcs Uq k1 k2 ZO hR0 VB hmR hQl hRl
   unfold Dv at hD
   go_enter Tryz.func93,Tryz.ntmps93
   go_upto_region 7 with (first
    | (go_at_call 129;refine hD.out.mono ?_;rintro e w2 ⟨⟨vq,vr,rfl,rz,DU⟩,hE2⟩;obtain ⟨A2,c2,rfl,-⟩:=Un.sh rz;obtain ⟨A3,c3,rfl,-⟩:=Un.sh DU;rw [ZP.out] at DU ⊢;obtain ⟨p0,p1,p2,p3,p4⟩:=gY.ext hE2;obtain ⟨q0,q1,q2,q3,q4⟩:=nY.ext hE2;have hv2:=Un.below hv0 hE2)
    | (go_at_call 96;refine (hSb.out _ _ hv2 DU).mono ?_;rintro e w3 ⟨u3,rfl,hu3,aJ⟩;obtain ⟨A5,c5,rfl,-⟩:=Un.sh hu3))
   have ZT:=(((hE0.below hE2).below aJ).drew)
   have jl:=((hI0.ext hE2).ext aJ).ext (Ext.refl _).drew
   have hJ3:=((hJ0.ext hE2).ext aJ).ext (Ext.refl _).drew
   have hP3:=((gY.ext hE2).ext aJ).ext (Ext.refl _).drew
   have hQ3:=((nY.ext hE2).ext aJ).ext (Ext.refl _).drew
   have hS0:(w.heap.size+1+1+1<w3.drew.heap.size∧w3.drew.cell? ⟨w.heap.size,0,none⟩=some (.bool true)∧w3.drew.cell? ⟨w.heap.size,1,none⟩=some (.slice A L c)∧w3.drew.cell? ⟨w.heap.size+1,0,none⟩=some (.bool q)∧w3.drew.cell? ⟨w.heap.size+1,1,none⟩=some (.slice B K d))∧Ext w w3.drew:=⟨⟨hJ3.1,hP3.2.1,hP3.2.2.1,hQ3.2.1,hQ3.2.2.1⟩,ZT⟩
   have adJ:=((Un.below rz aJ).below (Ext.refl _).drew)
   have adK:=Un.below hu3 (Ext.refl _).drew
   clear hP3 hQ3 gY nY p0 p1 p2 p3 p4 q0 q1 q2 q3 q4
   go_region_held3 (fun X=>(w.heap.size+1+1+1<X.heap.size∧X.cell? ⟨w.heap.size,0,none⟩=some (.bool true)∧X.cell? ⟨w.heap.size,1,none⟩=some (.slice A L c)∧X.cell? ⟨w.heap.size+1,0,none⟩=some (.bool q)∧X.cell? ⟨w.heap.size+1,1,none⟩=some (.slice B K d))∧Ext w X)
    (first
     | assumption
     | with_reducible exact hS0
     | with_reducible exact Ul (by assumption)
     | with_reducible exact Um (by assumption)
     | exact Mv (by assumption) (by assumption)
     | exact Mv (by assumption) ((Ext.refl _).alloc _))
    (first
     | (go_at_call 95;(refine (hAd.out _ _ _ (Un.below adJ ((Ext.refl _).alloc _)) (tV _)).mono ?_);rintro e w4 ⟨u4,rfl,D5,aP⟩;have yN:=((Ext.refl w3.drew).alloc (.cells #[.int .u32 1] 67)).below aP;obtain ⟨A4,c4,rfl,-⟩:=Un.sh D5)
     | (go_at_call 62;((with_reducible refine (hM1.out _ _ D5).mono ?_);rintro e w6 ⟨u6,rfl,QH,bO⟩;obtain ⟨b6,A6,L6,c6,rfl⟩:=QH.sh))
     | (go_at_call 62;(have iM:=Un.below adK yN;have hY7:=Un.below iM bO;(with_reducible refine (hM2.out _ _ hY7).mono ?_);rintro e w7 ⟨u7,rfl,QI,cB⟩;obtain ⟨b7,A7,L7,c7,rfl⟩:=QI.sh;have Kr:=((jl.ext yN).ext bO).ext cB;have Kt:=((hJ3.ext yN).ext bO).ext cB;obtain ⟨i0,i1,i2,i3,i4⟩:=id Kr;obtain ⟨j0,j1,j2,j3,j4⟩:=id Kt;have Tc:=((ZT.below yN).below bO).below cB)))
   have XD:=QH.below cB
   have QJ:=Lib.hid Kr
   have QK:=Lib.hid Kt
   clear Kr Kt
   go_wp2
   (try simp only [Exit.inBlock,Exit.then])
   refine bodyPost_ret (v:=.tuple #[.agg #[.bool b6,.slice A6 L6 c6],.agg #[.bool b7,.slice A7 L7 c7],.int .i64 0]) (show (results _ _).run _ _=_ from ?_) rfl ⟨⟨_,_,rfl,(XD.bW QJ.out (aM _ _ _) _ _).bW (QK.out.other (by omega) _ _) (aM _ _ _) _ _,(QI.bW QJ.out (aM _ _ _) _ _).bW (QK.out.other (by omega) _ _) (aM _ _ _) _ _⟩,(Tc.bW (by omega) _ _).bW (by omega) _ _⟩
   simp only [results]
   go_simp
 · have hpr:p=false∨R=0:=by
    cases p
    · exact .inl rfl
    · right
      rcases Nat.eq_zero_or_pos R with h | h
      · exact h
      · exact absurd ⟨rfl,by omega⟩ hsp
   obtain ⟨k1,k2⟩:=Ej p q n m hm0 (by rw [hR];exact hpr)
   rw [hQ,← hz,← hz2,hx] at k1
   rw [hR,← hz,← hz2,hy] at k2
   have hM1:=Lib.hid (fun W v (h:Un W v Q)=>eY W (!(p==q)) v (limbs Q) h (by omega) Q (aH _) x k1)
   have hM2:=Lib.hid (fun W v (h:Un W v R)=>eY W false v (limbs R) h (by omega) R (aH _) y k2)
   have hcase:p=false∨(p=true∧LR=0):=by
    rcases hpr with h | h
    · exact .inl h
    · cases p
      · exact .inl rfl
      · exact .inr ⟨rfl,by omega⟩
   clear hl hl2 hza hzn jr lK hz hz2 hL hK ha hb hu hv hN hx hy hQ hR h0 hm0 hcs Uq k1 k2 ZO hsp hpr
   unfold Dv at hD
   rcases hcase with rfl | ⟨rfl,rfl⟩
   case' inl=>rw [show (!(false==q))=q by cases q<;>rfl] at hM1
   case' inr=>rw [show (!(true==q)) = !q by cases q<;>rfl] at hM1
   all_goals (
    go_enter Tryz.func93,Tryz.ntmps93
    go_upto_region 5 with (first
     | (go_at_call 129;refine hD.out.mono ?_;rintro e w5 ⟨⟨vq,vr,rfl,rz,DU⟩,aW⟩;obtain ⟨A2,c2,rfl,-⟩:=Un.sh rz;obtain ⟨A3,c3,rfl,-⟩:=Un.sh DU;rw [ZP.out] at DU ⊢;obtain ⟨p0,p1,p2,p3,p4⟩:=gY.ext aW;obtain ⟨q0,q1,q2,q3,q4⟩:=nY.ext aW))
    go_wp2_with (fail)
    refine (hM1.out _ _ rz).mono ?_
    rintro e w6 ⟨u6,rfl,QH,bO⟩
    obtain ⟨b6,A6,L6,c6,rfl⟩:=QH.sh
    go_wp2_with (fail)
    refine (hM2.out _ _ (Un.below DU bO)).mono ?_
    rintro e w7 ⟨u7,rfl,QI,cB⟩
    obtain ⟨b7,A7,L7,c7,rfl⟩:=QI.sh
    have Kr:=((hI0.ext aW).ext bO).ext cB
    have Kt:=((hJ0.ext aW).ext bO).ext cB
    obtain ⟨i0,i1,i2,i3,i4⟩:=id Kr
    obtain ⟨j0,j1,j2,j3,j4⟩:=id Kt
    have QJ:=Lib.hid Kr
    have QK:=Lib.hid Kt
    have XD:=QH.below cB
    have Tc:=((hE0.below aW).below bO).below cB
    clear Kr Kt
    go_wp2
    (try simp only [Exit.inBlock,Exit.then])
    refine bodyPost_ret (v:=.tuple #[.agg #[.bool b6,.slice A6 L6 c6],.agg #[.bool b7,.slice A7 L7 c7],.int .i64 0]) (show (results _ _).run _ _=_ from ?_) rfl ⟨⟨_,_,rfl,(XD.bW QJ.out (aM _ _ _) _ _).bW (QK.out.other (by omega) _ _) (aM _ _ _) _ _,(QI.bW QJ.out (aM _ _ _) _ _).bW (QK.out.other (by omega) _ _) (aM _ _ _) _ _⟩,(Tc.bW (by omega) _ _).bW (by omega) _ _⟩
    simp only [results]
    go_simp)
end Go.Proofs.YtdpmbgomcjnohaaGreatDoor
/- The document's powers, exact quotients. -/
namespace Go.Proofs.YtdpmbgomcjnohaaGreatDoor
open Go.RowKit
set_option linter.unusedVariables false
set_option maxHeartbeats 400000
set_option maxRecDepth 100000 in
set_option maxHeartbeats 8000000 in
theorem oP (w:World) (va vb:Value) (a b:Int) (ha:Zn w va a) (hb:Zn w vb b) (hl:(limbs a.natAbs).length≤200) (hl2:(limbs b.natAbs).length≤200) (h0:b≠0) (hr:a%b=0) (x:Int) (hx:a/b=x) :
  Calls Tryz.prog 131 #[va,vb] w fun e w'=>∃ u,e = .returned (.tuple #[u,.bool true])∧Zn w' u x∧Ext w w':=by
 have ha':=ha
 have hb':=hb
 obtain ⟨p,A,L,c,rfl⟩:=ha.sh
 obtain ⟨q,B,K,d,rfl⟩:=hb.sh
 have hE0:=(((Ext.refl w).alloc (.cells #[.bool p,.slice A L c] 24)).alloc (.cells #[.bool q,.slice B K d] 24)).alloc (.cells #[.bool false,.slice none 0 0] 24)
 have hI0:=Ib.rW w (.cells #[.bool p,.slice A L c] 24) (.cells #[.bool q,.slice B K d] 24) false (.slice none 0 0) 24
 have hD:=Lib.hid (wS _ _ _ a b (ha'.below hE0) (hb'.below hE0) hl hl2 h0 x 0 hx hr)
 clear h0 ha hb ha' hb' hl hl2 hr hx
 unfold ZN at hD
 go_enter Tryz.func131,Tryz.ntmps131
 go_wp2_with (go_at_call 93;refine hD.out.mono ?_;rintro e w2 ⟨⟨x',y,rfl,hx,hy⟩,hE2⟩;obtain ⟨b1,A1,L1,c1,rfl⟩:=hx.sh;obtain ⟨b2,A2,L2,c2,n2,hv2,hu2,hL2,hz2,-,jr,-⟩:=hy.open;subst hv2;obtain rfl:L2=0:=(by { have:=nK n2;omega });clear hL2 hz2 jr;have aJ:=((Ext.refl w2).alloc (.cells #[.bool b1,.slice A1 L1 c1] 24)).alloc (.cells #[.bool b2,.slice A2 0 c2] 24);have jl:=(hI0.ext hE2).ext aJ;obtain ⟨i0,i1,i2,i3,i4⟩:=id jl;have hJ3:=(Ib.new w2 b1 (.slice A1 L1 c1) 24).ext ((Ext.refl _).alloc (.cells #[.bool b2,.slice A2 0 c2] 24));obtain ⟨j0,j1,j2,j3,j4⟩:=id hJ3;have hs:=(hE0.below hE2).size)
 (try simp only [Exit.inBlock,Exit.then])
 refine bodyPost_ret (v:=.tuple #[.agg #[.bool b1,.slice A1 L1 c1],.bool true]) (show (results _ _).run _ _=_ from ?_) rfl ⟨_,rfl,(hx.below aJ).bW jl (aM _ _ _) _ _,((hE0.below hE2).below aJ).bW (by omega) _ _⟩
 simp only [results]
 go_simp
end Go.Proofs.YtdpmbgomcjnohaaGreatDoor
/- Small numbers reckoned, powers and shifts, in the walk by plans. -/
namespace Go.Proofs.YtdpmbgomcjnohaaGreatDoor
open Go.RowKit
set_option linter.unusedVariables false
set_option maxHeartbeats 400000
theorem Q3 {a:Int} {K n M:Nat} (h:Sz a K) (hm:K*n≤M) (h1:1≤M):(limbs (a.natAbs^n)).length≤M:=by
 refine iO (show _<4294967296^M from ?_)
 rcases Nat.eq_zero_or_pos n with rfl | hn
 · rw [Nat.pow_zero]
   exact Nat.one_lt_pow (by omega) (by decide)
 · refine Nat.lt_of_lt_of_le (Nat.pow_lt_pow_left (uN h) (by omega)) ?_
   rw [← Nat.pow_mul]
   exact Nat.pow_le_pow_right (by decide) hm
theorem Sz.pow {a:Int} {K n M:Nat} (h:Sz a K) (hm:K*n≤M) (h1:1≤M):Sz (a^n) M:=by
 show (limbs (a^n).natAbs).length≤M
 rw [Int.natAbs_pow]
 exact Q3 h hm h1
theorem zX {n M:Nat} (h:n<32*M):(limbs ((2:Int).natAbs^n)).length≤M:=by
 refine iO (show _<4294967296^M from ?_)
 show 2^n<(2^32)^M
 rw [← Nat.pow_mul]
 exact Nat.pow_lt_pow_right (by decide) h
theorem Sz.two {n M:Nat} (h:n<32*M):Sz ((2:Int)^n) M:=by
 show (limbs ((2:Int)^n).natAbs).length≤M
 rw [Int.natAbs_pow]
 exact zX h
def shl (a s:Int):Int:=if 0≤s then a*2^s.toNat else a/2^(-s).toNat
theorem oL (a:Int) (i:Nat):shl a (i:Int)=a*2^i:=by
 unfold shl;rw [if_pos (by omega)];rfl
theorem Bq (i:Nat):(2:Int)^i≠0:=Int.pow_ne_zero (by decide)
theorem Sz.small {z:Int} {K:Nat} (h:z.natAbs<4294967296∧1≤K):Sz z K:=Sz.lit h.1 h.2
end Go.Proofs.YtdpmbgomcjnohaaGreatDoor
/- Signs, orders, shifts; what is made of a whole number and a power of 2. -/
namespace Go.Proofs.YtdpmbgomcjnohaaGreatDoor
open Go.RowKit
set_option linter.all false
set_option maxRecDepth 100000
set_option maxHeartbeats 8000000
theorem qL {z k:Int} (h:Int.sign z=k) : -1≤k∧k≤1∧(k=0→z=0)∧(z=0→k=0)∧(0<k→0<z)∧(0<z→0<k)∧(k<0→z<0)∧(z<0→k<0):=by
 subst h
 rcases Int.lt_trichotomy z 0 with h | rfl | h
 · rw [Int.sign_eq_neg_one_of_neg h];omega
 · simp
 · rw [Int.sign_eq_one_of_pos h];omega
theorem yj {a b k:Int} (h:bZ a b=k) : -1≤k∧k≤1∧(k=0→a=b)∧(a=b→k=0)∧(0<k→b<a)∧(b<a→0<k)∧(k<0→a<b)∧(a<b→k<0):=by
 subst h
 rcases Int.lt_trichotomy a b with h | rfl | h
 · rw [kV h];omega
 · rw [qC];omega
 · rw [lZ h];omega
theorem UW {z n:Int} (h:n≤0):(shl z n).natAbs≤z.natAbs:=by
 unfold shl
 split
 · obtain rfl:n=0:=by omega
   simp
 · exact Int.natAbs_ediv_le_natAbs z _
theorem zZ {z n:Int} {K:Nat} (h:Sz z K) (hn:n≤0):Sz (shl z n) K:=Sz.of (UW hn) h
theorem jF {z n:Int} {K j M:Nat} (h:Sz z K) (hn:n≤32*(j:Int)) (hk:K+j≤M):Sz (shl z n) M:=by
 rcases Int.lt_or_le n 0 with h0 | h0
 · exact (zZ h (by omega)).le (by omega)
 · obtain ⟨k,rfl⟩:=Int.eq_ofNat_of_zero_le h0
   have e:(shl z (k:Int)).natAbs=z.natAbs*2^k:=by
    unfold shl
    rw [if_pos h0,Int.toNat_natCast,Int.natAbs_mul,Int.natAbs_pow];rfl
   refine iO (show _<LB^M from ?_)
   rw [e]
   refine Nat.lt_of_lt_of_le (m:=LB^K*LB^j) ?_ (by rw [← Nat.pow_add];exact Nat.pow_le_pow_right (by decide) hk)
   have h1:=uN h
   have h2:2^k≤LB^j:=by rw [show LB=2^32 from rfl,← Nat.pow_mul];exact Nat.pow_le_pow_right (by decide) (by omega)
   exact Nat.lt_of_lt_of_le (Nat.mul_lt_mul_of_pos_right h1 (Nat.two_pow_pos k)) (Nat.mul_le_mul_left _ h2)
theorem Dn.zero (w:World) (L:Nat) {lo hi:Int} (h1:lo≤0) (h2:0≤hi):Dn w (.agg #[.bool false,.slice none 0 0,.int .i64 0]) 0 L lo hi:=by
 refine ⟨0,0,none,0,?_,?_,.inl ⟨rfl,rfl⟩,Dy.oN 0,Sz.zero,h1,h2⟩
 · show _=Value.agg #[.bool false,.slice none (limbs 0).length 0,.int .i64 0]
   rw [aX];rfl
 · show Un w (.slice none (limbs 0).length 0) 0
   rw [aX];exact Un.adD _ _ _
theorem ug {m e:Int} {n o:Nat} (h:m.natAbs=2^n*(2*o+1)):Dy.Can (shl m (-(n:Int))) (e+n)∧Dy.dv (shl m (-(n:Int))) (e+n)=Dy.dv m e:=by
 have e1:∃ t:Int,m=t*2^n∧t%2=1:=by
  rcases Int.natAbs_eq m with h1 | h1
  · refine ⟨2*o+1,?_,by omega⟩
    rw [h1,h,Int.natCast_mul,Int.natCast_pow,Int.mul_comm];rfl
  · refine ⟨-(2*o+1),?_,by omega⟩
    rw [h1,h,Int.natCast_mul,Int.natCast_pow,Int.neg_mul,Int.mul_comm];rfl
 obtain ⟨t,rfl,ht⟩:=e1
 have e2:shl (t*2^n) (-(n:Int))=t:=by
  unfold shl
  split
  · have:n=0:=by omega
    subst this;simp
  · rw [Int.neg_neg,Int.toNat_natCast]
    exact Int.mul_ediv_cancel _ (Int.pow_ne_zero (by decide))
 rw [e2,← Dy.qh]
 exact ⟨.inr ht,rfl⟩
end Go.Proofs.YtdpmbgomcjnohaaGreatDoor
/- Dyadic numbers made, their signs, turned. -/
namespace Go.Proofs.YtdpmbgomcjnohaaGreatDoor
open Go.RowKit 
set_option linter.all false
set_option maxRecDepth 100000
set_option maxHeartbeats 8000000
theorem dD (w:World) (hg:Gt w) (vm:Value) (m ex:Int) (hm:Zn w vm m) (L:Nat) (lm:Sz m L) (hL:L≤30000) (he : -1000000000≤ex∧ex≤1000000000) (lo hi:Int) (h1:lo≤ex) (h2:ex+32*L≤hi) (h3:lo≤0) (h4:0≤hi) :
  Calls Tryz.prog 18 #[vm,.int .i64 ex] w fun e w'=>∃ u,e = .returned u∧Dn w' u (Dy.dv m ex) L lo hi∧Pl.Ex w w':=by
 obtain ⟨Am,cm,rfl,um⟩:=hm
 refine Pl.aN (n:=20) (vs:=[.agg #[.bool (decide (m<0)),.slice Am (limbs (Int.natAbs m)).length cm],.int .i64 ex]) Tryz.func18 rfl (by kernel_rfl) (by simp) ?_
 repeat refine Pl.af ?_
 refine Pl.ah (by kernel_rfl) ?_
 refine Pl.bF (cs:=[.bool (decide (m<0)),.slice Am (limbs (Int.natAbs m)).length cm]) rfl rfl rfl rfl rfl rfl (fun Y hY=>trivial) ?_
 intro N1 w1 hE1 bT ak
 have dP:=Pl.Cb.lt ak
 have jC:=Pl.Ex.size hE1
 refine Pl.bK (z:=.agg #[.bool false,.slice none 0 0,.int .i64 0]) (by kernel_rfl) rfl rfl rfl rfl (fun Y hY=>trivial) ?_
 intro N2 w2 hE2 dU aA
 have iq:=Pl.Cb.lt aA
 have jM:=Pl.Ex.size hE2
 replace aA:Pl.Cb w2 N2 26 [.bool false,.slice none 0 0,.int .i64 0]:=aA
 refine Pl.aj ?_
 repeat refine Pl.af ?_
 refine Pl.ah (by kernel_rfl) ?_
 refine Pl.bg (part:=[.bool (decide (m<0)),.slice Am (limbs (Int.natAbs m)).length cm]) (Pl.Cb.ex ak hE2) rfl Tryz.underlying24 rfl (by kernel_rfl) trivial rfl rfl rfl rfl rfl ?_
 refine Pl.ay rfl rfl rfl rfl rfl (fun u X=>Pl.enters Tryz.func60 (by kernel_rfl) rfl u X) ?_
 refine Calls.mono (Cr _ _ m (Zn.of (Un.below um (Pl.Ex.trans hE1 hE2))) _ rfl) ?_
 rintro e w3 ⟨rfl,aJ⟩
 obtain ⟨k3,qk3⟩:∃ q,Int.sign m=q:=⟨_,rfl⟩
 rw [qk3]
 have gk3:=qL qk3
 have jX:=Pl.Ex.size aJ
 refine ⟨_,rfl,trivial,?_⟩
 by_cases c4:k3=0
 · refine Pl.bP (v:=.bool true) (fun X=>ed c4 X) trivial rfl rfl rfl rfl rfl rfl ?_
   refine Pl.aj ?_
   repeat refine Pl.af ?_
   refine Pl.fP rfl ?_
   repeat refine Pl.af ?_
   refine Pl.ah (by kernel_rfl) ?_
   refine Pl.aL (.agg #[.bool false,.slice none 0 0,.int .i64 0]) trivial rfl rfl rfl rfl (fun X=>by kernel_rfl) ?_
   refine Pl.bz (new:=[.bool false,.slice none 0 0,.int .i64 0]) (Pl.Cb.ex aA aJ) (by kernel_rfl) rfl (by simp [Value.oneCell']) rfl rfl rfl rfl rfl rfl (fun Y hY=>trivial) ?_
   intro w4 wo bf
   have aP:=Pl.Ex.xs (Pl.Ex.trans hE2 aJ) wo (by omega)
   have kY:=Pl.Xs.size wo
   refine Pl.aj ?_
   repeat refine Pl.af ?_
   exact Pl.aV rfl rfl bf Tryz.underlying26 rfl (by kernel_rfl) (⟨_,rfl,by rw [show m=0 by omega,Dy.oN];exact Dn.zero _ L (by omega) (by omega),(Pl.Ex.trans hE1 aP)⟩)
 · refine Pl.bP (v:=.bool false) (fun X=>jB c4 X) trivial rfl rfl rfl rfl rfl rfl ?_
   refine Pl.aj ?_
   repeat refine Pl.af ?_
   refine Pl.dH rfl ?_
   repeat refine Pl.af ?_
   refine Pl.fG ?_
   repeat refine Pl.af ?_
   refine Pl.ah (by kernel_rfl) ?_
   refine Pl.bg (part:=[.bool (decide (m<0)),.slice Am (limbs (Int.natAbs m)).length cm]) (Pl.Cb.ex ak (Pl.Ex.trans hE2 aJ)) rfl Tryz.underlying24 rfl (by kernel_rfl) trivial rfl rfl rfl rfl rfl ?_
   refine Pl.ay rfl rfl rfl rfl rfl (fun u X=>Pl.enters Tryz.func64 (by kernel_rfl) rfl u X) ?_
   refine Calls.mono (IK _ (hg.ext (Pl.Ex.trans hE1 (Pl.Ex.trans hE2 aJ))) _ m (Zn.of (Un.below um (Pl.Ex.trans hE1 (Pl.Ex.trans hE2 aJ)))) (by omega) L lm (by omega)) ?_
   rintro e w4 ⟨k5,o6,rfl,hk5,UX,aP⟩
   have kY:=Pl.Ex.size aP
   refine ⟨_,rfl,trivial,?_⟩
   refine Pl.aG trivial rfl ?_
   refine Pl.aj ?_
   repeat refine Pl.af ?_
   refine Pl.ah (by kernel_rfl) ?_
   refine Pl.bg (part:=[.bool (decide (m<0)),.slice Am (limbs (Int.natAbs m)).length cm]) (Pl.Cb.ex ak (Pl.Ex.trans hE2 (Pl.Ex.trans aJ aP))) rfl Tryz.underlying24 rfl (by kernel_rfl) trivial rfl rfl rfl rfl rfl ?_
   refine Pl.aG trivial rfl ?_
   refine Pl.qb (v:=.int .i64 (-((k5:Nat):Int))) trivial rfl rfl rfl rfl rfl (fun X=>eH (by omega) X) ?_
   refine Pl.ay rfl rfl rfl rfl rfl (fun u X=>Pl.enters Tryz.func65 (by kernel_rfl) rfl u X) ?_
   refine Calls.mono (kH _ _ m (-((k5:Nat):Int)) (Zn.of (Un.below um (Pl.Ex.trans hE1 (Pl.Ex.trans hE2 (Pl.Ex.trans aJ aP))))) (Nat.le_trans lm (by omega)) (by omega) (by omega) (shl m (-((k5:Nat):Int))) rfl) ?_
   rintro e w5 ⟨v7,rfl,hv7,aW⟩
   obtain ⟨A8,c9,rfl,zK⟩:=hv7
   have mI:=Pl.Ex.size aW
   refine ⟨_,rfl,trivial,?_⟩
   refine Pl.aG trivial rfl ?_
   refine Pl.bP (v:=.int .i64 (ex+((k5:Nat):Int))) (fun X=>yt (by omega) X) trivial rfl rfl rfl rfl rfl rfl ?_
   refine Pl.aL (.agg #[.bool (decide ((shl m (-((k5:Nat):Int)))<0)),.slice A8 (limbs (Int.natAbs (shl m (-((k5:Nat):Int))))).length c9,.int .i64 (ex+((k5:Nat):Int))]) trivial rfl rfl rfl rfl (fun X=>by kernel_rfl) ?_
   refine Pl.bz (new:=[.bool (decide ((shl m (-((k5:Nat):Int)))<0)),.slice A8 (limbs (Int.natAbs (shl m (-((k5:Nat):Int))))).length c9,.int .i64 (ex+((k5:Nat):Int))]) (Pl.Cb.ex aA (Pl.Ex.trans aJ (Pl.Ex.trans aP aW))) (by kernel_rfl) rfl (by simp [Value.oneCell']) rfl rfl rfl rfl rfl rfl (fun Y hY=>trivial) ?_
   intro w6 jY bf
   have bO:=Pl.Ex.xs (Pl.Ex.trans hE2 (Pl.Ex.trans aJ (Pl.Ex.trans aP aW))) jY (by omega)
   have rC:=Pl.Xs.size jY
   refine Pl.aj ?_
   have k11:=Un.xs zK jY (Pl.Cb.ex aA (Pl.Ex.trans aJ (Pl.Ex.trans aP aW))) (by simp)
   repeat refine Pl.af ?_
   exact Pl.aV rfl rfl bf Tryz.underlying26 rfl (by kernel_rfl) (⟨_,rfl,Dn.mk k11 (ug hk5).1 (ug hk5).2 (zZ lm (by omega)) (by omega) (by omega),(Pl.Ex.trans hE1 bO)⟩)
def EP (x:Rat) (k:Int):Prop := -1≤k∧k≤1∧(k<0↔x<0)∧(k=0↔x=0)∧(0<k↔0<x)
theorem PU {m e k:Int} {x:Rat} (h:Dy.dv m e=x) (hk:Int.sign m=k):EP x k:=by
 have h1:=qL hk
 subst h
 have h2:Dy.dv m e<0↔m<0:=by rw [← Dy.oN e,Dy.Ij]
 have h3:0<Dy.dv m e↔0<m:=by rw [← Dy.oN e,Dy.Ij]
 exact ⟨by omega,by omega,by rw [h2];omega,by rw [Dy.vT];omega,by rw [h3];omega⟩
theorem EP.uniq {x:Rat} {j k:Int} (h:EP x j) (g:EP x k):j=k:=by
 obtain ⟨a1,a2,a3,a4,a5⟩:=h
 obtain ⟨b1,b2,b3,b4,b5⟩:=g
 rcases Int.lt_trichotomy j 0 with h | h | h
 · have:=b3.2 (a3.1 h);omega
 · have:=b4.2 (a4.1 h);omega
 · have:=b5.2 (a5.1 h);omega
theorem iY (w:World) (va:Value) (x:Rat) (L:Nat) (lo hi:Int) (ha:Dn w va x L lo hi) :
  Calls Tryz.prog 22 #[va] w fun e w'=>∃ k:Int,e = .returned (.int .i64 k)∧EP x k∧Pl.Ex w w':=by
 obtain ⟨ma,ea,Aa,ca,rfl,ua,da⟩:=ha
 have yx:=da.lo
 have yz:=da.hi
 refine Pl.aN (n:=6) (vs:=[.agg #[.bool (decide (ma<0)),.slice Aa (limbs (Int.natAbs ma)).length ca,.int .i64 ea]]) Tryz.func22 rfl (by kernel_rfl) (by simp) ?_
 repeat refine Pl.af ?_
 refine Pl.ah (by kernel_rfl) ?_
 refine Pl.bF (cs:=[.bool (decide (ma<0)),.slice Aa (limbs (Int.natAbs ma)).length ca,.int .i64 ea]) rfl rfl rfl rfl rfl rfl (fun Y hY=>trivial) ?_
 intro N1 w1 hE1 bT ak
 have dP:=Pl.Cb.lt ak
 have jC:=Pl.Ex.size hE1
 refine Pl.aG trivial rfl ?_
 refine Pl.aj ?_
 repeat refine Pl.af ?_
 refine Pl.ah (by kernel_rfl) ?_
 refine Pl.aL (.pointer (some ⟨N1,0,none⟩)) trivial rfl rfl rfl rfl (fun X=>by kernel_rfl) ?_
 refine Pl.bg (part:=[.bool (decide (ma<0)),.slice Aa (limbs (Int.natAbs ma)).length ca]) ak rfl Tryz.underlying24 rfl (by kernel_rfl) trivial rfl rfl rfl rfl rfl ?_
 refine Pl.ay rfl rfl rfl rfl rfl (fun u X=>Pl.enters Tryz.func60 (by kernel_rfl) rfl u X) ?_
 refine Calls.mono (Cr _ _ ma (Zn.of (Un.below ua hE1)) _ rfl) ?_
 rintro e w2 ⟨rfl,hE2⟩
 obtain ⟨k2,WZ⟩:∃ q,Int.sign ma=q:=⟨_,rfl⟩
 rw [WZ]
 have Yy:=qL WZ
 have jM:=Pl.Ex.size hE2
 refine ⟨_,rfl,trivial,?_⟩
 refine Pl.aG trivial rfl ?_
 refine Pl.aj ?_
 repeat refine Pl.af ?_
 exact Pl.aZ rfl rfl  (⟨k2,rfl,PU da.val WZ,(Pl.Ex.trans hE1 hE2)⟩)
theorem jL (w:World) (n:Int) (h0:0≤n) (h1:n≤100000) :
  Calls Tryz.prog 81 #[.int .i64 n] w fun e w'=>∃ u,e = .returned u∧Zn w' u (shl 1 n)∧Pl.Ex w w':=by
 refine Pl.aN (n:=6) (vs:=[.int .i64 n]) Tryz.func81 rfl (by kernel_rfl) (by simp) ?_
 repeat refine Pl.af ?_
 refine Pl.ah (by kernel_rfl) ?_
 refine Pl.bK (z:=.agg #[.bool false,.slice none 0 0]) (by kernel_rfl) rfl rfl rfl rfl (fun Y hY=>trivial) ?_
 intro N1 w1 hE1 bT ak
 have dP:=Pl.Cb.lt ak
 have jC:=Pl.Ex.size hE1
 replace ak:Pl.Cb w1 N1 24 [.bool false,.slice none 0 0]:=ak
 refine Pl.aj ?_
 repeat refine Pl.af ?_
 refine Pl.ah (by kernel_rfl) ?_
 refine Pl.ay rfl rfl rfl rfl rfl (fun u X=>Pl.enters Tryz.func117 (by kernel_rfl) rfl u X) ?_
 refine Calls.mono (zof _ 1 (by decide) (by decide)) ?_
 rintro e w2 ⟨v2,rfl,hv2,hE2⟩
 obtain ⟨A3,c4,rfl,u5⟩:=hv2
 have jM:=Pl.Ex.size hE2
 refine ⟨_,rfl,trivial,?_⟩
 refine Pl.aG trivial rfl ?_
 refine Pl.ay rfl rfl rfl rfl rfl (fun u X=>Pl.enters Tryz.func65 (by kernel_rfl) rfl u X) ?_
 refine Calls.mono (kH _ _ 1 n (Zn.of u5) (Sz.le (Sz.lit (K:=1) (by decide) (by decide)) (by decide)) (by omega) (by omega) (shl 1 n) rfl) ?_
 rintro e w3 ⟨v6,rfl,hv6,aJ⟩
 obtain ⟨A7,c8,rfl,u9⟩:=hv6
 have jX:=Pl.Ex.size aJ
 refine ⟨_,rfl,trivial,?_⟩
 refine Pl.bz (new:=[.bool (decide ((shl 1 n)<0)),.slice A7 (limbs (Int.natAbs (shl 1 n))).length c8]) (Pl.Cb.ex ak (Pl.Ex.trans hE2 aJ)) (by kernel_rfl) rfl (by simp [Value.oneCell']) rfl rfl rfl rfl rfl rfl (fun Y hY=>trivial) ?_
 intro w4 wo gQ
 have aP:=Pl.Ex.xs (Pl.Ex.trans hE1 (Pl.Ex.trans hE2 aJ)) wo (by omega)
 have kY:=Pl.Xs.size wo
 refine Pl.aj ?_
 have k10:=Un.xs u9 wo (Pl.Cb.ex ak (Pl.Ex.trans hE2 aJ)) (by simp)
 repeat refine Pl.af ?_
 exact Pl.aV rfl rfl gQ Tryz.underlying24 rfl (by kernel_rfl) (⟨_,rfl,Zn.of k10,aP⟩)
end Go.Proofs.YtdpmbgomcjnohaaGreatDoor
