/- The document's whole numbers: made, turned, ordered. -/
import Derived.Test.YtdpmbgomcjnohaaGreatDoorBaq
import Derived.Test.YtdpmbgomcjnohaaGreatDoorBap
import Derived.Test.YtdpmbgomcjnohaaGreatDoorBau
import Derived.Test.YtdpmbgomcjnohaaGreatDoorBar
import Derived.Test.YtdpmbgomcjnohaaGreatDoorBaj
import Derived.Test.YtdpmbgomcjnohaaGreatDoorBat
import Derived.Deep.RegionHeld3

namespace Go.Proofs.YtdpmbgomcjnohaaGreatDoor
open Go.RowKit
set_option linter.unusedVariables false
set_option maxHeartbeats 400000
set_option maxRecDepth 100000 in
theorem dL (w:World) (b:Bool) (v:Value) (xs:List Nat) (hu:U w v xs) (hlen:xs.length≤1000000000) (n:Nat) (hn:val xs=n) (z:Int) (hz:sg b n=z) :
  Calls Tryz.prog 62 #[.bool b,v] w fun e w'=>∃ u,e = .returned u∧Zn w' u z∧Ext w w':=by
 have hM:=Lib.hid (fun W h=>Jy W v xs h hlen n hn)
 have hE0:=(Ext.refl w).alloc (.cells #[.bool false,.slice none 0 0] 24)
 have hI0:=Ib.new w false (.slice none 0 0) 24
 have hu0:=hu.below hE0
 have hza:z.natAbs=n:=by rw [← hz,yt]
 have hzn:decide (z<0)=(b&&decide (0<n)):=by rw [← hz,Ra]
 obtain ⟨L,hL⟩:∃ L,(limbs n).length=L:=⟨_,rfl⟩
 have hc:=yV n
 rw [hL] at hc
 have HL:=Lib.hid hL
 have HZ:=Lib.hid (And.intro hza hzn)
 obtain ⟨A0,c0,rfl,-⟩:=id hu
 obtain ⟨l0,hl0⟩:∃ l,xs.length=l:=⟨_,rfl⟩
 rw [hl0] at hM hu0 ⊢
 clear hl0
 clear hz hn hL hza hzn
 rcases hc with ⟨h1,rfl⟩ | ⟨h1,h2⟩
 · subst h1
   cases b
   all_goals (
    go_enter Tryz.func62,Tryz.ntmps62
    go_wp2_with (go_at_call 100;refine (hM.out _ hu0).mono ?_;rintro e w2 ⟨u,rfl,hu2,hE2⟩;obtain ⟨A,c,rfl,hc⟩:=Un.sh hu2;rw [HL.out] at hu2 ⊢;clear hc;have hI2:=hI0.ext hE2;obtain ⟨i0,i1,i2,i3,i4⟩:=id hI2)
    (try simp only [Exit.inBlock,Exit.then])
    refine bodyPost_ret (v:=.agg #[.bool false,.slice A 0 c]) (show (results _ _).run _ _=_ from ?_) rfl ⟨_,rfl,Zn.mk' (Un.fZ hu2 hI2 (dw _ _ _) _ _) HL.out HZ.out.1 HZ.out.2,(hE0.below hE2).fZ (Nat.le_refl _) _ _⟩
    simp only [results]
    go_simp)
 · have h3:(0:Int)<(L:Int):=by omega
   have hb0:Hid (decide (0<n)=true):=decide_eq_true (by omega)
   cases b
   case' false=>have HS:Hid (decide (z<0)=false):=by show _=_;rw [HZ.out.2];rfl
   case' true=>have HS:Hid (decide (z<0)=true):=by show _=_;rw [HZ.out.2,hb0.out];rfl
   all_goals (
    go_enter Tryz.func62,Tryz.ntmps62
    go_wp2_with (go_at_call 100;refine (hM.out _ hu0).mono ?_;rintro e w2 ⟨u,rfl,hu2,hE2⟩;obtain ⟨A,c,rfl,hc⟩:=Un.sh hu2;rw [HL.out] at hu2 ⊢;clear hc;have hI2:=hI0.ext hE2;obtain ⟨i0,i1,i2,i3,i4⟩:=id hI2)
    (try simp only [Exit.inBlock,Exit.then])
    refine bodyPost_ret (v:=.agg #[.bool _,.slice A L c]) (show (results _ _).run _ _=_ from ?_) rfl ⟨_,rfl,Zn.mk' (Un.fZ hu2 hI2 (dw _ _ _) _ _) HL.out HZ.out.1 HS.out,(hE0.below hE2).fZ (Nat.le_refl _) _ _⟩
    simp only [results]
    go_simp)
set_option maxRecDepth 100000 in
theorem Mk (w:World) (v:Value) (z:Int) (h:Zn w v z) (hlz:(limbs z.natAbs).length≤1000000) (y:Int) (hy : -z=y) :
  Calls Tryz.prog 72 #[v] w fun e w'=>∃ u,e = .returned u∧Zn w' u y∧Ext w w':=by
 obtain ⟨b,A,L,c,n,rfl,hu,hL,hz,hb,hza,hzn⟩:=h.open
 have hE0:=((Ext.refl w).alloc (.cells #[.bool b,.slice A L c] 24)).alloc (.cells #[.bool false,.slice none 0 0] 24)
 have hI0:=Ib.new2 w (.cells #[.bool b,.slice A L c] 24) false (.slice none 0 0) 24
 have kZ:=(Ib.new w b (.slice A L c) 24).ext ((Ext.refl _).alloc (.cells #[.bool false,.slice none 0 0] 24))
 have hu0:=hu.below hE0
 have hM:=Lib.hid (fun W h=>dL W (!b) (.slice A L c) (limbs n) h (by rw [hza] at hlz;omega) n (aI n) y (by rw [Ka,← hz];exact hy))
 obtain ⟨p0,p1,p2,p3,p4⟩:=id kZ
 clear hlz hz hb hza hzn hL hy h
 go_enter Tryz.func72,Tryz.ntmps72
 go_wp2_with (go_at_call 62;refine (hM.out _ hu0).mono ?_;rintro e w2 ⟨u,rfl,hz2,hE2⟩;obtain ⟨b2,A2,L2,c2,rfl⟩:=hz2.sh;have hI2:=hI0.ext hE2;obtain ⟨i0,i1,i2,i3,i4⟩:=id hI2)
 (try simp only [Exit.inBlock,Exit.then])
 refine bodyPost_ret (v:=.agg #[.bool b2,.slice A2 L2 c2]) (show (results _ _).run _ _=_ from ?_) rfl ⟨_,rfl,hz2.fZ hI2 (dw _ _ _) _ _,(hE0.below hE2).fZ (by simp) _ _⟩
 simp only [results]
 go_simp
set_option maxRecDepth 100000 in
set_option maxHeartbeats 4000000 in
theorem ab7 (w:World) (k:Int) (h0:0≤k) (h1:k<18446744073709551616) (n:Nat) (hn:k.toNat=n) :
  Calls Tryz.prog 94 #[.int .u64 k] w fun e w'=>∃ u,e = .returned u∧Un w' u n∧Ext w w':=by
 obtain ⟨m,rfl⟩:=Int.eq_ofNat_of_zero_le h0
 rw [Int.toNat_natCast] at hn
 subst hn
 obtain ⟨r,hr⟩:∃ r,m%4294967296=r:=⟨_,rfl⟩
 obtain ⟨q,hq⟩:∃ q,m/4294967296=q:=⟨_,rfl⟩
 have hrb:r<4294967296:=by omega
 have Tp:q<4294967296:=by omega
 have hv:val [r,q]=m:=by simp only [val];omega
 have hu:=Lib.hid (fun W=>Tq W [r,q] (by simp;omega) (by simp))
 have o1:(m:Int).tmod 4294967296=(r:Int):=by rw [Int.tmod_eq_emod_of_nonneg (Int.natCast_nonneg _)];omega
 have o2:(m:Int)%4294967296=(r:Int):=by omega
 have o3:(m:Int).tdiv 4294967296=(q:Int):=by rw [Int.tdiv_eq_ediv_of_nonneg (Int.natCast_nonneg _)];omega
 have o4:(m:Int)/4294967296=(q:Int):=by omega
 have o5:(r:Int)%4294967296=(r:Int):=by omega
 have o6:(q:Int)%4294967296=(q:Int):=by omega
 have o7:IntKind.u32.wrap (r:Int)=(r:Int):=by rw [IntKind.wrap_u32];omega
 have o8:IntKind.u32.wrap (q:Int)=(q:Int):=by rw [IntKind.wrap_u32];omega
 have o9:IntKind.u64.wrap (q:Int)=(q:Int):=by rw [IntKind.wrap_u64];omega
 have hM:=Lib.hid (fun W v h=>Jy W v [r,q] h (by simp) m hv)
 clear hr hq hv h0
 go_enter Tryz.func94,Tryz.ntmps94
 go_wp2_with (go_at_call 100;refine (hM.out _ _ (hu.out w)).mono ?_;rintro e w2 ⟨u,rfl,hu2,hE2⟩;obtain ⟨A2,c2,rfl,-⟩:=Un.sh hu2)
 go_ret
 exact ⟨_,rfl,hu2,((Ext.refl w).alloc _).below hE2⟩
set_option maxRecDepth 100000 in
theorem Bg (w:World) (z:Int) (h1 : -9223372036854775808≤z) (h2:z≤9223372036854775807) :
  Calls Tryz.prog 53 #[.int .i64 z] w fun e w'=>∃ u,e = .returned u∧Zn w' u z∧Ext w w':=by
 have hE0:=(Ext.refl w).alloc (.cells #[.bool false,.slice none 0 0] 24)
 have hI0:=Ib.new w false (.slice none 0 0) 24
 by_cases h0:z<0
 · obtain ⟨m,hm⟩:∃ m:Nat,-z=(m:Int):=⟨(-z).toNat,by omega⟩
   obtain ⟨k,hk⟩:∃ k:Nat,z+18446744073709551616=(k:Int):=⟨(z+18446744073709551616).toNat,by omega⟩
   have o1:z%18446744073709551616=(k:Int):=by omega
   have o2:IntKind.u64.wrap z=(k:Int):=by rw [IntKind.wrap_u64];omega
   have o3:(-(k:Int))%18446744073709551616=(m:Int):=by omega
   have o4:IntKind.u64.wrap (-(k:Int))=(m:Int):=by rw [IntKind.wrap_u64];omega
   have hM:=Lib.hid (fun W v h=>dL W true v (limbs m) h (by have:=rA (k:=2) (show m<LB^2 by unfold LB;omega);omega) m (aI m) z (by rw [zQ];omega))
   have hOf:=Lib.hid (fun W=>ab7 W (m:Int) (by omega) (by omega) m (by simp))
   clear hm hk
   go_enter Tryz.func53,Tryz.ntmps53
   go_wp2_with (first
    | (go_at_call 94;refine (hOf.out _).mono ?_;rintro e w2 ⟨u,rfl,hu2,hE2⟩;obtain ⟨A2,c2,rfl,hc2⟩:=Un.sh hu2)
    | (go_at_call 62;refine (hM.out _ _ hu2).mono ?_;rintro e w3 ⟨u,rfl,hz3,aO⟩;obtain ⟨b3,A3,L3,c3,rfl⟩:=hz3.sh;have nX:=(hI0.ext hE2).ext aO;obtain ⟨i0,i1,i2,i3,i4⟩:=id nX))
   (try simp only [Exit.inBlock,Exit.then])
   refine bodyPost_ret (v:=.agg #[.bool b3,.slice A3 L3 c3]) (show (results _ _).run _ _=_ from ?_) rfl ⟨_,rfl,hz3.fZ nX (dw _ _ _) _ _,((hE0.below hE2).below aO).fZ (by simp) _ _⟩
   simp only [results]
   go_simp
 · obtain ⟨m,rfl⟩:=Int.eq_ofNat_of_zero_le (show 0≤z by omega)
   have o1:(m:Int)%18446744073709551616=(m:Int):=by omega
   have o2:IntKind.u64.wrap (m:Int)=(m:Int):=by rw [IntKind.wrap_u64];omega
   have hM:=Lib.hid (fun W v h=>dL W false v (limbs m) h (by have:=rA (k:=2) (show m<LB^2 by unfold LB;omega);omega) m (aI m) (m:Int) rfl)
   have hOf:=Lib.hid (fun W=>ab7 W (m:Int) (by omega) (by omega) m (by simp))
   go_enter Tryz.func53,Tryz.ntmps53
   go_wp2_with (first
    | (go_at_call 94;refine (hOf.out _).mono ?_;rintro e w2 ⟨u,rfl,hu2,hE2⟩;obtain ⟨A2,c2,rfl,hc2⟩:=Un.sh hu2)
    | (go_at_call 62;refine (hM.out _ _ hu2).mono ?_;rintro e w3 ⟨u,rfl,hz3,aO⟩;obtain ⟨b3,A3,L3,c3,rfl⟩:=hz3.sh;have nX:=(hI0.ext hE2).ext aO;obtain ⟨i0,i1,i2,i3,i4⟩:=id nX))
   (try simp only [Exit.inBlock,Exit.then])
   refine bodyPost_ret (v:=.agg #[.bool b3,.slice A3 L3 c3]) (show (results _ _).run _ _=_ from ?_) rfl ⟨_,rfl,hz3.fZ nX (dw _ _ _) _ _,((hE0.below hE2).below aO).fZ (by simp) _ _⟩
   simp only [results]
   go_simp
set_option maxRecDepth 100000 in
set_option maxHeartbeats 8000000 in
theorem Iz (w:World) (va vb:Value) (a b:Int) (ha:Zn w va a) (hb:Zn w vb b) (hl:(limbs a.natAbs).length≤1000000) (hl2:(limbs b.natAbs).length≤1000000) (k:Int) (hk:jy a b=k) :
  Calls Tryz.prog 89 #[va,vb] w fun e w'=>e = .returned (.int .i64 k)∧Ext w w':=by
 obtain ⟨p,A,L,c,n,rfl,hu,hL,hz,-,hza,hzn⟩:=ha.open
 obtain ⟨q,B,K,d,m,rfl,hv,hK,hz2,-,pJ,tZ⟩:=hb.open
 rw [hza] at hl
 rw [pJ] at hl2
 have hE0:=((Ext.refl w).alloc (.cells #[.bool p,.slice A L c] 24)).alloc (.cells #[.bool q,.slice B K d] 24)
 have hu0:=hu.below hE0
 have hv0:=hv.below hE0
 have Pm:decide (a<0)=p:=hzn
 have Pn:decide (b<0)=q:=tZ
 cases p<;>cases q
 case' false.false =>
  have hC:=Lib.hid (RG _ (.slice A L c) (.slice B K d) n m hu0 hv0 (by omega) (by omega) k (by
   have h1:=of_decide_eq_false Pm
   have h2:=of_decide_eq_false Pn
   rw [← hk,show a=(n:Int) by omega,show b=(m:Int) by omega]))
 case' true.true =>
  have hC:=Lib.hid (RG _ (.slice B K d) (.slice A L c) m n hv0 hu0 (by omega) (by omega) k (by
   have h1:=of_decide_eq_true Pm
   have h2:=of_decide_eq_true Pn
   rw [← hk,show a = -(n:Int) by omega,show b = -(m:Int) by omega]
   unfold jy;(repeat' split)<;>omega))
 case' true.false =>
  have hkk:k = -1:=by
   have h1:=of_decide_eq_true Pm
   have h2:=of_decide_eq_false Pn
   rw [← hk];exact if_pos (by omega)
  subst hkk
 case' false.true =>
  have hkk:k=1:=by
   have h1:=of_decide_eq_false Pm
   have h2:=of_decide_eq_true Pn
   rw [← hk];unfold jy;rw [if_neg (by omega),if_pos (by omega)]
  subst hkk
 all_goals (
  clear hl hl2 hza hzn pJ tZ hz hz2 hL hK ha hb hu hv hk Pm Pn hu0 hv0
  go_enter Tryz.func89,Tryz.ntmps89
  go_wp2_with (go_at_call 79;refine hC.out.mono ?_;rintro e w2 ⟨rfl,hE2⟩)
  go_ret
  exact ⟨rfl,by first | exact hE0.below hE2 | exact hE0⟩)
theorem Po (a b:Int):jy a b=0↔a=b:=by unfold jy;(repeat' split)<;>omega
set_option maxRecDepth 100000 in
set_option maxHeartbeats 8000000 in
theorem EO (w:World) (va vb:Value) (a b:Int) (ha:Zn w va a) (hb:Zn w vb b) (hl:(limbs a.natAbs).length≤1000000) (hl2:(limbs b.natAbs).length≤1000000) (r:Bool) (hr:decide (a=b)=r) :
  Calls Tryz.prog 43 #[va,vb] w fun e w'=>e = .returned (.bool r)∧Ext w w':=by
 have ha':=ha
 have hb':=hb
 obtain ⟨p,A,L,c,n,rfl,-,-,-,-,-,hzn⟩:=ha.open
 obtain ⟨q,B,K,d,m,rfl,-,-,-,-,-,tZ⟩:=hb.open
 have hE0:=((Ext.refl w).alloc (.cells #[.bool p,.slice A L c] 24)).alloc (.cells #[.bool q,.slice B K d] 24)
 have kZ:=(Ib.new w p (.slice A L c) 24).ext ((Ext.refl _).alloc (.cells #[.bool q,.slice B K d] 24))
 have vW:=Ib.new2 w (.cells #[.bool p,.slice A L c] 24) q (.slice B K d) 24
 obtain ⟨k,hk⟩:∃ k,jy a b=k:=⟨_,rfl⟩
 have hC:=Lib.hid (Iz _ _ _ a b (ha'.below hE0) (hb'.below hE0) hl hl2 k hk)
 by_cases hab:a=b
 · rw [decide_eq_true hab] at hr
   subst hr
   have hk0:k=0:=by rw [← hk];exact (Po a b).2 hab
   have hpq:p=q:=by rw [← hzn,← tZ,hab]
   subst hk0
   subst hpq
   clear hk hab hzn tZ hl hl2 ha hb ha' hb'
   cases p
   all_goals (
    go_enter Tryz.func43,Tryz.ntmps43
    go_wp2_with (go_at_call 89;refine hC.out.mono ?_;rintro e w2 ⟨rfl,hE2⟩;obtain ⟨p0,p1,p2,p3,p4⟩:=kZ.ext hE2;obtain ⟨q0,q1,q2,q3,q4⟩:=vW.ext hE2)
    go_ret
    exact ⟨by first | rfl | simp,hE0.below hE2⟩)
 · rw [decide_eq_false hab] at hr
   subst hr
   have hk0:(k==0)=false:=by
    rw [beq_eq_false_iff_ne]
    intro h
    exact hab ((Po a b).1 (hk.trans h))
   clear hk hab hzn tZ hl hl2 ha hb ha' hb'
   go_enter Tryz.func43,Tryz.ntmps43
   go_wp2_with (go_at_call 89;refine hC.out.mono ?_;rintro e w2 ⟨rfl,hE2⟩;obtain ⟨p0,p1,p2,p3,p4⟩:=kZ.ext hE2;obtain ⟨q0,q1,q2,q3,q4⟩:=vW.ext hE2)
   go_ret
   exact ⟨by first | rfl | simp,hE0.below hE2⟩
end Go.Proofs.YtdpmbgomcjnohaaGreatDoor
/- The document's sums, differences, products. -/
namespace Go.Proofs.YtdpmbgomcjnohaaGreatDoor
open Go.RowKit
set_option linter.unusedVariables false
set_option maxHeartbeats 400000
theorem xJ (n m:Nat):(limbs (n*m)).length≤(limbs n).length+(limbs m).length:=by
 refine rA ?_
 rw [Nat.pow_add]
 exact Nat.mul_lt_mul'' (jB (Nat.le_refl _)) (jB (Nat.le_refl _))
end Go.Proofs.YtdpmbgomcjnohaaGreatDoor
/- The document's quotients. -/
namespace Go.Proofs.YtdpmbgomcjnohaaGreatDoor
open Go.RowKit
set_option linter.unusedVariables false
set_option maxHeartbeats 400000
set_option maxRecDepth 100000 in
set_option maxHeartbeats 16000000 in
theorem bZ (w:World) (va vb:Value) (a b:Int) (ha:Zn w va a) (hb:Zn w vb b) (hl:(limbs a.natAbs).length≤200) (hl2:(limbs b.natAbs).length≤200) (h0:b≠0) (x y:Int) (hx:a/b=x) (hy:a%b=y) :
  Calls Tryz.prog 93 #[va,vb] w fun e w'=>ZdD w w' e x y:=by
 unfold ZdD
 obtain ⟨p,A,L,c,n,rfl,hu,hL,hz,-,hza,hzn⟩:=ha.open
 obtain ⟨q,B,K,d,m,rfl,hv,hK,hz2,-,pJ,tZ⟩:=hb.open
 rw [hza] at hl
 rw [pJ] at hl2
 have hm0:m≠0:=by omega
 obtain ⟨Q,hQ⟩:∃ Q,n/m=Q:=⟨_,rfl⟩
 obtain ⟨R,hR⟩:∃ R,n%m=R:=⟨_,rfl⟩
 have hQl:(limbs Q).length≤200:=Nat.le_trans (mJ (by rw [← hQ];exact Nat.div_le_self _ _)) hl
 have hRm:R<m:=by rw [← hR];exact Nat.mod_lt _ (by omega)
 have hRl:(limbs R).length≤200:=Nat.le_trans (mJ (by omega)) hl2
 have hE0:=((((Ext.refl w).alloc (.cells #[.bool p,.slice A L c] 24)).alloc (.cells #[.bool q,.slice B K d] 24)).alloc (.cells #[.bool false,.slice none 0 0] 24)).alloc (.cells #[.bool false,.slice none 0 0] 24)
 have hI0:=(Ib.zu w (.cells #[.bool p,.slice A L c] 24) (.cells #[.bool q,.slice B K d] 24) false (.slice none 0 0) 24).ext ((Ext.refl _).alloc (.cells #[.bool false,.slice none 0 0] 24))
 have hJ0:=Ib.zu (w.alloc (.cells #[.bool p,.slice A L c] 24)) (.cells #[.bool q,.slice B K d] 24) (.cells #[.bool false,.slice none 0 0] 24) false (.slice none 0 0) 24
 have hN:(w.alloc (.cells #[.bool p,.slice A L c] 24)).heap.size=w.heap.size+1:=by simp
 rw [hN] at hJ0
 have kZ:=(Ib.new w p (.slice A L c) 24).ext ((((Ext.refl _).alloc (.cells #[.bool q,.slice B K d] 24)).alloc (.cells #[.bool false,.slice none 0 0] 24)).alloc (.cells #[.bool false,.slice none 0 0] 24))
 have vW:=(Ib.new2 w (.cells #[.bool p,.slice A L c] 24) q (.slice B K d) 24).ext (((Ext.refl _).alloc (.cells #[.bool false,.slice none 0 0] 24)).alloc (.cells #[.bool false,.slice none 0 0] 24))
 have hD:=Lib.hid (abT _ (.slice A L c) (.slice B K d) n m Q R (hu.below hE0) (hv.below hE0) hl hl2 hm0 hQ hR)
 have hv0:=hv.below hE0
 have hcs:=yV R
 obtain ⟨LR,hLR⟩:∃ L,(limbs R).length=L:=⟨_,rfl⟩
 have HLR:=Lib.hid hLR
 rw [hLR] at hcs
 by_cases hsp:p=true∧R≠0
 · obtain ⟨rfl,hR0⟩:=hsp
   obtain ⟨k1,k2⟩:=KX q n m hm0 (by rw [hR];exact hR0)
   rw [hQ,← hz,← hz2,hx] at k1
   rw [hR,← hz,← hz2,hy] at k2
   rw [show (!(true==q)) = !q by cases q<;>rfl] at k1
   have Ty:(limbs (Q+1)).length≤1000000000:=by
    have:=mJ (show Q+1≤Q+Q+1 by omega)
    have h5:=xJ (Q+1) 1
    have h6:(limbs (Q+1)).length≤(limbs Q).length+1:=by
     refine rA ?_
     have h7:Q<LB^(limbs Q).length:=jB (Nat.le_refl _)
     rw [Nat.pow_succ]
     have h8:LB^(limbs Q).length*2≤LB^(limbs Q).length*LB:=Nat.mul_le_mul_left _ (by unfold LB;decide)
     omega
    omega
   have hmR:(limbs (m-R)).length≤1000000000:=by have:=mJ (show m-R≤m by omega);omega
   have hAd:=Lib.hid (fun W v u h g=>Kh W v u Q 1 h g (by omega) (by have:=Ot;have h5:=rA (k:=1) (show 1<LB^1 by unfold LB;decide);omega) (Q+1) rfl)
   have hSb:=Lib.hid (fun W v h g=>xI W (.slice B K d) v m R h g (by omega) (by omega) true (decide_eq_true (by omega)) (m-R) rfl)
   have hM1:=Lib.hid (fun W v (h:Un W v (Q+1))=>dL W (!q) v (limbs (Q+1)) h Ty (Q+1) (aI _) x k1)
   have hM2:=Lib.hid (fun W v (h:Un W v (m-R))=>dL W false v (limbs (m-R)) h hmR (m-R) (aI _) y k2)
   have hlr:¬ (LR=0):=by omega
   have alA:((LR:Int)==0)=false:=by rw [beq_eq_false_iff_ne];omega
   clear hl hl2 hza hzn pJ tZ hz hz2 hL hK ha hb hu hv hN hx hy hQ hR h0 hm0 hcs hLR k1 k2 hRm hR0 Ty hmR hQl hRl
   unfold Dv at hD
   go_enter Tryz.func93,Tryz.ntmps93
   go_upto_region 7 with (first
    | (go_at_call 129;refine hD.out.mono ?_;rintro e w2 ⟨⟨vq,vr,rfl,zJ,Ma⟩,hE2⟩;obtain ⟨A2,c2,rfl,-⟩:=Un.sh zJ;obtain ⟨A3,c3,rfl,-⟩:=Un.sh Ma;rw [HLR.out] at Ma ⊢;obtain ⟨p0,p1,p2,p3,p4⟩:=kZ.ext hE2;obtain ⟨q0,q1,q2,q3,q4⟩:=vW.ext hE2;have hv2:=Un.below hv0 hE2)
    | (go_at_call 96;refine (hSb.out _ _ hv2 Ma).mono ?_;rintro e w3 ⟨u3,rfl,hu3,aO⟩;obtain ⟨A5,c5,rfl,-⟩:=Un.sh hu3))
   have agO:=(((hE0.below hE2).below aO).drew)
   have nX:=((hI0.ext hE2).ext aO).ext (Ext.refl _).drew
   have hJ3:=((hJ0.ext hE2).ext aO).ext (Ext.refl _).drew
   have hP3:=((kZ.ext hE2).ext aO).ext (Ext.refl _).drew
   have hQ3:=((vW.ext hE2).ext aO).ext (Ext.refl _).drew
   have hS0:(w.heap.size+1+1+1<w3.drew.heap.size∧w3.drew.cell? ⟨w.heap.size,0,none⟩=some (.bool true)∧w3.drew.cell? ⟨w.heap.size,1,none⟩=some (.slice A L c)∧w3.drew.cell? ⟨w.heap.size+1,0,none⟩=some (.bool q)∧w3.drew.cell? ⟨w.heap.size+1,1,none⟩=some (.slice B K d))∧Ext w w3.drew:=⟨⟨hJ3.1,hP3.2.1,hP3.2.2.1,hQ3.2.1,hQ3.2.2.1⟩,agO⟩
   have alE:=((Un.below zJ aO).below (Ext.refl _).drew)
   have alF:=Un.below hu3 (Ext.refl _).drew
   clear hP3 hQ3 kZ vW p0 p1 p2 p3 p4 q0 q1 q2 q3 q4
   go_region_held3 (fun X=>(w.heap.size+1+1+1<X.heap.size∧X.cell? ⟨w.heap.size,0,none⟩=some (.bool true)∧X.cell? ⟨w.heap.size,1,none⟩=some (.slice A L c)∧X.cell? ⟨w.heap.size+1,0,none⟩=some (.bool q)∧X.cell? ⟨w.heap.size+1,1,none⟩=some (.slice B K d))∧Ext w X)
    (first
     | assumption
     | with_reducible exact hS0
     | with_reducible exact aay (by assumption)
     | with_reducible exact aaz (by assumption)
     | exact TN (by assumption) (by assumption)
     | exact TN (by assumption) ((Ext.refl _).alloc _))
    (first
     | (go_at_call 95;(refine (hAd.out _ _ _ (Un.below alE ((Ext.refl _).alloc _)) (DR _)).mono ?_);rintro e w4 ⟨u4,rfl,Ki,aR⟩;have Ij:=((Ext.refl w3.drew).alloc (.cells #[.int .u32 1] 67)).below aR;obtain ⟨A4,c4,rfl,-⟩:=Un.sh Ki)
     | (go_at_call 62;((with_reducible refine (hM1.out _ _ Ki).mono ?_);rintro e w6 ⟨u6,rfl,Xl,aM⟩;obtain ⟨b6,A6,L6,c6,rfl⟩:=Xl.sh))
     | (go_at_call 62;(have gP:=Un.below alF Ij;have hY7:=Un.below gP aM;(with_reducible refine (hM2.out _ _ hY7).mono ?_);rintro e w7 ⟨u7,rfl,Xm,aH⟩;obtain ⟨b7,A7,L7,c7,rfl⟩:=Xm.sh;have RB:=((nX.ext Ij).ext aM).ext aH;have RD:=((hJ3.ext Ij).ext aM).ext aH;obtain ⟨i0,i1,i2,i3,i4⟩:=id RB;obtain ⟨j0,j1,j2,j3,j4⟩:=id RD;have Y9:=((agO.below Ij).below aM).below aH)))
   have hZ6:=Xl.below aH
   have Xn:=Lib.hid RB
   have Xo:=Lib.hid RD
   clear RB RD
   go_wp2
   (try simp only [Exit.inBlock,Exit.then])
   refine bodyPost_ret (v:=.tuple #[.agg #[.bool b6,.slice A6 L6 c6],.agg #[.bool b7,.slice A7 L7 c7],.int .i64 0]) (show (results _ _).run _ _=_ from ?_) rfl ⟨⟨_,_,rfl,(hZ6.fZ Xn.out (dw _ _ _) _ _).fZ (Xo.out.other (by omega) _ _) (dw _ _ _) _ _,(Xm.fZ Xn.out (dw _ _ _) _ _).fZ (Xo.out.other (by omega) _ _) (dw _ _ _) _ _⟩,(Y9.fZ (by omega) _ _).fZ (by omega) _ _⟩
   simp only [results]
   go_simp
 · have hpr:p=false∨R=0:=by
    cases p
    · exact .inl rfl
    · right
      rcases Nat.eq_zero_or_pos R with h | h
      · exact h
      · exact absurd ⟨rfl,by omega⟩ hsp
   obtain ⟨k1,k2⟩:=Mt p q n m hm0 (by rw [hR];exact hpr)
   rw [hQ,← hz,← hz2,hx] at k1
   rw [hR,← hz,← hz2,hy] at k2
   have hM1:=Lib.hid (fun W v (h:Un W v Q)=>dL W (!(p==q)) v (limbs Q) h (by omega) Q (aI _) x k1)
   have hM2:=Lib.hid (fun W v (h:Un W v R)=>dL W false v (limbs R) h (by omega) R (aI _) y k2)
   have hcase:p=false∨(p=true∧LR=0):=by
    rcases hpr with h | h
    · exact .inl h
    · cases p
      · exact .inl rfl
      · exact .inr ⟨rfl,by omega⟩
   clear hl hl2 hza hzn pJ tZ hz hz2 hL hK ha hb hu hv hN hx hy hQ hR h0 hm0 hcs hLR k1 k2 hRm hsp hpr
   unfold Dv at hD
   rcases hcase with rfl | ⟨rfl,rfl⟩
   case' inl=>rw [show (!(false==q))=q by cases q<;>rfl] at hM1
   case' inr=>rw [show (!(true==q)) = !q by cases q<;>rfl] at hM1
   all_goals (
    go_enter Tryz.func93,Tryz.ntmps93
    go_upto_region 5 with (first
     | (go_at_call 129;refine hD.out.mono ?_;rintro e w5 ⟨⟨vq,vr,rfl,zJ,Ma⟩,aP⟩;obtain ⟨A2,c2,rfl,-⟩:=Un.sh zJ;obtain ⟨A3,c3,rfl,-⟩:=Un.sh Ma;rw [HLR.out] at Ma ⊢;obtain ⟨p0,p1,p2,p3,p4⟩:=kZ.ext aP;obtain ⟨q0,q1,q2,q3,q4⟩:=vW.ext aP))
    go_wp2_with (fail)
    refine (hM1.out _ _ zJ).mono ?_
    rintro e w6 ⟨u6,rfl,Xl,aM⟩
    obtain ⟨b6,A6,L6,c6,rfl⟩:=Xl.sh
    go_wp2_with (fail)
    refine (hM2.out _ _ (Un.below Ma aM)).mono ?_
    rintro e w7 ⟨u7,rfl,Xm,aH⟩
    obtain ⟨b7,A7,L7,c7,rfl⟩:=Xm.sh
    have RB:=((hI0.ext aP).ext aM).ext aH
    have RD:=((hJ0.ext aP).ext aM).ext aH
    obtain ⟨i0,i1,i2,i3,i4⟩:=id RB
    obtain ⟨j0,j1,j2,j3,j4⟩:=id RD
    have Xn:=Lib.hid RB
    have Xo:=Lib.hid RD
    have hZ6:=Xl.below aH
    have Y9:=((hE0.below aP).below aM).below aH
    clear RB RD
    go_wp2
    (try simp only [Exit.inBlock,Exit.then])
    refine bodyPost_ret (v:=.tuple #[.agg #[.bool b6,.slice A6 L6 c6],.agg #[.bool b7,.slice A7 L7 c7],.int .i64 0]) (show (results _ _).run _ _=_ from ?_) rfl ⟨⟨_,_,rfl,(hZ6.fZ Xn.out (dw _ _ _) _ _).fZ (Xo.out.other (by omega) _ _) (dw _ _ _) _ _,(Xm.fZ Xn.out (dw _ _ _) _ _).fZ (Xo.out.other (by omega) _ _) (dw _ _ _) _ _⟩,(Y9.fZ (by omega) _ _).fZ (by omega) _ _⟩
    simp only [results]
    go_simp)
end Go.Proofs.YtdpmbgomcjnohaaGreatDoor
/- The document's powers, exact quotients. -/
namespace Go.Proofs.YtdpmbgomcjnohaaGreatDoor
open Go.RowKit
set_option linter.unusedVariables false
set_option maxHeartbeats 400000
set_option maxRecDepth 100000 in
set_option maxHeartbeats 8000000 in
theorem Ao (w:World) (va vb:Value) (a b:Int) (ha:Zn w va a) (hb:Zn w vb b) (hl:(limbs a.natAbs).length≤200) (hl2:(limbs b.natAbs).length≤200) (h0:b≠0) (hr:a%b=0) (x:Int) (hx:a/b=x) :
  Calls Tryz.prog 131 #[va,vb] w fun e w'=>∃ u,e = .returned (.tuple #[u,.bool true])∧Zn w' u x∧Ext w w':=by
 have ha':=ha
 have hb':=hb
 obtain ⟨p,A,L,c,rfl⟩:=ha.sh
 obtain ⟨q,B,K,d,rfl⟩:=hb.sh
 have hE0:=(((Ext.refl w).alloc (.cells #[.bool p,.slice A L c] 24)).alloc (.cells #[.bool q,.slice B K d] 24)).alloc (.cells #[.bool false,.slice none 0 0] 24)
 have hI0:=Ib.zu w (.cells #[.bool p,.slice A L c] 24) (.cells #[.bool q,.slice B K d] 24) false (.slice none 0 0) 24
 have hD:=Lib.hid (bZ _ _ _ a b (ha'.below hE0) (hb'.below hE0) hl hl2 h0 x 0 hx hr)
 clear h0 ha hb ha' hb' hl hl2 hr hx
 unfold ZdD at hD
 go_enter Tryz.func131,Tryz.ntmps131
 go_wp2_with (go_at_call 93;refine hD.out.mono ?_;rintro e w2 ⟨⟨x',y,rfl,hx,hy⟩,hE2⟩;obtain ⟨b1,A1,L1,c1,rfl⟩:=hx.sh;obtain ⟨b2,A2,L2,c2,n2,hv2,hu2,hL2,hz2,-,pJ,-⟩:=hy.open;subst hv2;obtain rfl:L2=0:=(by { have:=yV n2;omega });clear hL2 hz2 pJ;have aO:=((Ext.refl w2).alloc (.cells #[.bool b1,.slice A1 L1 c1] 24)).alloc (.cells #[.bool b2,.slice A2 0 c2] 24);have nX:=(hI0.ext hE2).ext aO;obtain ⟨i0,i1,i2,i3,i4⟩:=id nX;have hJ3:=(Ib.new w2 b1 (.slice A1 L1 c1) 24).ext ((Ext.refl _).alloc (.cells #[.bool b2,.slice A2 0 c2] 24));obtain ⟨j0,j1,j2,j3,j4⟩:=id hJ3;have hs:=(hE0.below hE2).size)
 (try simp only [Exit.inBlock,Exit.then])
 refine bodyPost_ret (v:=.tuple #[.agg #[.bool b1,.slice A1 L1 c1],.bool true]) (show (results _ _).run _ _=_ from ?_) rfl ⟨_,rfl,(hx.below aO).fZ nX (dw _ _ _) _ _,((hE0.below hE2).below aO).fZ (by omega) _ _⟩
 simp only [results]
 go_simp
end Go.Proofs.YtdpmbgomcjnohaaGreatDoor
/- Small numbers reckoned, powers and shifts, in the walk by plans. -/
namespace Go.Proofs.YtdpmbgomcjnohaaGreatDoor
open Go.RowKit
set_option linter.unusedVariables false
set_option maxHeartbeats 400000
theorem XE {a:Int} {K n M:Nat} (h:Sz a K) (hm:K*n≤M) (h1:1≤M):(limbs (a.natAbs^n)).length≤M:=by
 refine rA (show _<4294967296^M from ?_)
 rcases Nat.eq_zero_or_pos n with rfl | hn
 · rw [Nat.pow_zero]
   exact Nat.one_lt_pow (by omega) (by decide)
 · refine Nat.lt_of_lt_of_le (Nat.pow_lt_pow_left (zW h) (by omega)) ?_
   rw [← Nat.pow_mul]
   exact Nat.pow_le_pow_right (by decide) hm
theorem Sz.pow {a:Int} {K n M:Nat} (h:Sz a K) (hm:K*n≤M) (h1:1≤M):Sz (a^n) M:=by
 show (limbs (a^n).natAbs).length≤M
 rw [Int.natAbs_pow]
 exact XE h hm h1
theorem dQ {n M:Nat} (h:n<32*M):(limbs ((2:Int).natAbs^n)).length≤M:=by
 refine rA (show _<4294967296^M from ?_)
 show 2^n<(2^32)^M
 rw [← Nat.pow_mul]
 exact Nat.pow_lt_pow_right (by decide) h
theorem Sz.two {n M:Nat} (h:n<32*M):Sz ((2:Int)^n) M:=by
 show (limbs ((2:Int)^n).natAbs).length≤M
 rw [Int.natAbs_pow]
 exact dQ h
def shl (a s:Int):Int:=if 0≤s then a*2^s.toNat else a/2^(-s).toNat
theorem vL (a:Int) (i:Nat):shl a (i:Int)=a*2^i:=by
 unfold shl;rw [if_pos (by omega)];rfl
theorem aS (i:Nat):(2:Int)^i≠0:=Int.pow_ne_zero (by decide)
theorem Sz.shl {a s:Int} {K M:Nat} (h:Sz a K) (hs:s<32*29) (hm:K+29≤M):Sz (shl a s) M:=by
 unfold Go.Proofs.YtdpmbgomcjnohaaGreatDoor.shl
 split
 · exact h.mul (Sz.two (M:=29) (by omega)) hm
 · exact h.div.le (by omega)
theorem Sz.small {z:Int} {K:Nat} (h:z.natAbs<4294967296∧1≤K):Sz z K:=Sz.lit h.1 h.2
end Go.Proofs.YtdpmbgomcjnohaaGreatDoor
/- Signs, orders, shifts; what is made of a whole number and a power of 2. -/
namespace Go.Proofs.YtdpmbgomcjnohaaGreatDoor
open Go.RowKit
set_option linter.all false
set_option maxRecDepth 100000
set_option maxHeartbeats 8000000
theorem yx {z k:Int} (h:Int.sign z=k) : -1≤k∧k≤1∧(k=0→z=0)∧(z=0→k=0)∧(0<k→0<z)∧(0<z→0<k)∧(k<0→z<0)∧(z<0→k<0):=by
 subst h
 rcases Int.lt_trichotomy z 0 with h | rfl | h
 · rw [Int.sign_eq_neg_one_of_neg h];omega
 · simp
 · rw [Int.sign_eq_one_of_pos h];omega
theorem Ce {a b k:Int} (h:jy a b=k) : -1≤k∧k≤1∧(k=0→a=b)∧(a=b→k=0)∧(0<k→b<a)∧(b<a→0<k)∧(k<0→a<b)∧(a<b→k<0):=by
 subst h
 rcases Int.lt_trichotomy a b with h | rfl | h
 · rw [wC h];omega
 · rw [Bw];omega
 · rw [xV h];omega
theorem aa6 {z n:Int} (h:n≤0):(shl z n).natAbs≤z.natAbs:=by
 unfold shl
 split
 · obtain rfl:n=0:=by omega
   simp
 · exact Int.natAbs_ediv_le_natAbs z _
theorem zY {z n:Int} {K:Nat} (h:Sz z K) (hn:n≤0):Sz (shl z n) K:=Sz.of (aa6 hn) h
theorem qP {z n:Int} {K j M:Nat} (h:Sz z K) (hn:n≤32*(j:Int)) (hk:K+j≤M):Sz (shl z n) M:=by
 rcases Int.lt_or_le n 0 with h0 | h0
 · exact (zY h (by omega)).le (by omega)
 · obtain ⟨k,rfl⟩:=Int.eq_ofNat_of_zero_le h0
   have e:(shl z (k:Int)).natAbs=z.natAbs*2^k:=by
    unfold shl
    rw [if_pos h0,Int.toNat_natCast,Int.natAbs_mul,Int.natAbs_pow];rfl
   refine rA (show _<LB^M from ?_)
   rw [e]
   refine Nat.lt_of_lt_of_le (m:=LB^K*LB^j) ?_ (by rw [← Nat.pow_add];exact Nat.pow_le_pow_right (by decide) hk)
   have h1:=zW h
   have h2:2^k≤LB^j:=by rw [show LB=2^32 from rfl,← Nat.pow_mul];exact Nat.pow_le_pow_right (by decide) (by omega)
   exact Nat.lt_of_lt_of_le (Nat.mul_lt_mul_of_pos_right h1 (Nat.two_pow_pos k)) (Nat.mul_le_mul_left _ h2)
theorem Dn.zero (w:World) (L:Nat) {lo hi:Int} (h1:lo≤0) (h2:0≤hi):Dn w (.agg #[.bool false,.slice none 0 0,.int .i64 0]) 0 L lo hi:=by
 refine ⟨0,0,none,0,?_,?_,.inl ⟨rfl,rfl⟩,Dy.vM 0,Sz.zero,h1,h2⟩
 · show _=Value.agg #[.bool false,.slice none (limbs 0).length 0,.int .i64 0]
   rw [fI];rfl
 · show Un w (.slice none (limbs 0).length 0) 0
   rw [fI];exact Un.aly _ _ _
theorem tO {m e:Int} {n o:Nat} (h:m.natAbs=2^n*(2*o+1)):Dy.Can (shl m (-(n:Int))) (e+n)∧Dy.dv (shl m (-(n:Int))) (e+n)=Dy.dv m e:=by
 have e1:∃ t:Int,m=t*2^n∧t%2=1:=by
  rcases Int.natAbs_eq m with h1 | h1
  · refine ⟨2*o+1,?_,by omega⟩
    rw [h1,h,Int.natCast_mul,Int.natCast_pow,Int.mul_comm];rfl
  · refine ⟨-(2*o+1),?_,by omega⟩
    rw [h1,h,Int.natCast_mul,Int.natCast_pow,Int.neg_mul,Int.mul_comm];rfl
 obtain ⟨t,rfl,ht⟩:=e1
 have e2:shl (t*2^n) (-(n:Int))=t:=by
  unfold shl
  split
  · have:n=0:=by omega
    subst this;simp
  · rw [Int.neg_neg,Int.toNat_natCast]
    exact Int.mul_ediv_cancel _ (Int.pow_ne_zero (by decide))
 rw [e2,← Dy.AZ]
 exact ⟨.inr ht,rfl⟩
end Go.Proofs.YtdpmbgomcjnohaaGreatDoor
/- Dyadic numbers made, their signs, turned. -/
namespace Go.Proofs.YtdpmbgomcjnohaaGreatDoor
open Go.RowKit 
set_option linter.all false
set_option maxRecDepth 100000
set_option maxHeartbeats 8000000
theorem lU (w:World) (hg:Gt w) (vm:Value) (m ex:Int) (hm:Zn w vm m) (L:Nat) (lm:Sz m L) (hL:L≤30000) (he : -1000000000≤ex∧ex≤1000000000) (lo hi:Int) (h1:lo≤ex) (h2:ex+32*L≤hi) (h3:lo≤0) (h4:0≤hi) :
  Calls Tryz.prog 18 #[vm,.int .i64 ex] w fun e w'=>∃ u,e = .returned u∧Dn w' u (Dy.dv m ex) L lo hi∧Pl.Ex w w':=by
 obtain ⟨Am,cm,rfl,um⟩:=hm
 refine Pl.bL (n:=20) (vs:=[.agg #[.bool (decide (m<0)),.slice Am (limbs (Int.natAbs m)).length cm],.int .i64 ex]) Tryz.func18 rfl (by kernel_rfl) (by simp) ?_
 repeat refine Pl.ay ?_
 refine Pl.aB (by kernel_rfl) ?_
 refine Pl.dN (cs:=[.bool (decide (m<0)),.slice Am (limbs (Int.natAbs m)).length cm]) rfl rfl rfl rfl rfl rfl (fun Y hY=>trivial) ?_
 intro N1 w1 hE1 eP aC
 have ig:=Pl.Cb.lt aC
 have mH:=Pl.Ex.size hE1
 refine Pl.aU (z:=.agg #[.bool false,.slice none 0 0,.int .i64 0]) (by kernel_rfl) rfl rfl rfl rfl (fun Y hY=>trivial) ?_
 intro N2 w2 hE2 gD aD
 have iB:=Pl.Cb.lt aD
 have mY:=Pl.Ex.size hE2
 replace aD:Pl.Cb w2 N2 26 [.bool false,.slice none 0 0,.int .i64 0]:=aD
 refine Pl.af ?_
 repeat refine Pl.ay ?_
 refine Pl.aB (by kernel_rfl) ?_
 refine Pl.dJ (part:=[.bool (decide (m<0)),.slice Am (limbs (Int.natAbs m)).length cm]) (Pl.Cb.ex aC hE2) rfl Tryz.underlying24 rfl (by kernel_rfl) trivial rfl rfl rfl rfl rfl ?_
 refine Pl.ah rfl rfl rfl rfl rfl (fun u X=>Pl.enters Tryz.func60 (by kernel_rfl) rfl u X) ?_
 refine Calls.mono (KW _ _ m (Zn.of (Un.below um (Pl.Ex.trans hE1 hE2))) _ rfl) ?_
 rintro e w3 ⟨rfl,aO⟩
 obtain ⟨k3,qk3⟩:∃ q,Int.sign m=q:=⟨_,rfl⟩
 rw [qk3]
 have gk3:=yx qk3
 have mZ:=Pl.Ex.size aO
 refine ⟨_,rfl,trivial,?_⟩
 by_cases c4:k3=0
 · refine Pl.dO (v:=.bool true) (fun X=>nN c4 X) trivial rfl rfl rfl rfl rfl rfl ?_
   refine Pl.af ?_
   repeat refine Pl.ay ?_
   refine Pl.iO rfl ?_
   repeat refine Pl.ay ?_
   refine Pl.aB (by kernel_rfl) ?_
   refine Pl.bC (.agg #[.bool false,.slice none 0 0,.int .i64 0]) trivial rfl rfl rfl rfl (fun X=>by kernel_rfl) ?_
   refine Pl.bg (new:=[.bool false,.slice none 0 0,.int .i64 0]) (Pl.Cb.ex aD aO) (by kernel_rfl) rfl (by simp [Value.oneCell']) rfl rfl rfl rfl rfl rfl (fun Y hY=>trivial) ?_
   intro w4 yH dG
   have aR:=Pl.Ex.xs (Pl.Ex.trans hE2 aO) yH (by omega)
   have l9:=Pl.Xs.size yH
   refine Pl.af ?_
   repeat refine Pl.ay ?_
   exact Pl.cO rfl rfl dG Tryz.underlying26 rfl (by kernel_rfl) (⟨_,rfl,by rw [show m=0 by omega,Dy.vM];exact Dn.zero _ L (by omega) (by omega),(Pl.Ex.trans hE1 aR)⟩)
 · refine Pl.dO (v:=.bool false) (fun X=>vE c4 X) trivial rfl rfl rfl rfl rfl rfl ?_
   refine Pl.af ?_
   repeat refine Pl.ay ?_
   refine Pl.gm rfl ?_
   repeat refine Pl.ay ?_
   refine Pl.iK ?_
   repeat refine Pl.ay ?_
   refine Pl.aB (by kernel_rfl) ?_
   refine Pl.dJ (part:=[.bool (decide (m<0)),.slice Am (limbs (Int.natAbs m)).length cm]) (Pl.Cb.ex aC (Pl.Ex.trans hE2 aO)) rfl Tryz.underlying24 rfl (by kernel_rfl) trivial rfl rfl rfl rfl rfl ?_
   refine Pl.ah rfl rfl rfl rfl rfl (fun u X=>Pl.enters Tryz.func64 (by kernel_rfl) rfl u X) ?_
   refine Calls.mono (PI _ (hg.ext (Pl.Ex.trans hE1 (Pl.Ex.trans hE2 aO))) _ m (Zn.of (Un.below um (Pl.Ex.trans hE1 (Pl.Ex.trans hE2 aO)))) (by omega) L lm (by omega)) ?_
   rintro e w4 ⟨k5,o6,rfl,hk5,gk5,aR⟩
   have l9:=Pl.Ex.size aR
   refine ⟨_,rfl,trivial,?_⟩
   refine Pl.aG trivial rfl ?_
   refine Pl.af ?_
   repeat refine Pl.ay ?_
   refine Pl.aB (by kernel_rfl) ?_
   refine Pl.dJ (part:=[.bool (decide (m<0)),.slice Am (limbs (Int.natAbs m)).length cm]) (Pl.Cb.ex aC (Pl.Ex.trans hE2 (Pl.Ex.trans aO aR))) rfl Tryz.underlying24 rfl (by kernel_rfl) trivial rfl rfl rfl rfl rfl ?_
   refine Pl.aG trivial rfl ?_
   refine Pl.mK (v:=.int .i64 (-((k5:Nat):Int))) trivial rfl rfl rfl rfl rfl (fun X=>uA (by omega) X) ?_
   refine Pl.ah rfl rfl rfl rfl rfl (fun u X=>Pl.enters Tryz.func65 (by kernel_rfl) rfl u X) ?_
   refine Calls.mono (lH _ _ m (-((k5:Nat):Int)) (Zn.of (Un.below um (Pl.Ex.trans hE1 (Pl.Ex.trans hE2 (Pl.Ex.trans aO aR))))) (Nat.le_trans lm (by omega)) (by omega) (by omega) (shl m (-((k5:Nat):Int))) rfl) ?_
   rintro e w5 ⟨v7,rfl,hv7,aP⟩
   obtain ⟨A8,c9,rfl,rW⟩:=hv7
   have jY:=Pl.Ex.size aP
   refine ⟨_,rfl,trivial,?_⟩
   refine Pl.aG trivial rfl ?_
   refine Pl.dO (v:=.int .i64 (ex+((k5:Nat):Int))) (fun X=>xG (by omega) X) trivial rfl rfl rfl rfl rfl rfl ?_
   refine Pl.bC (.agg #[.bool (decide ((shl m (-((k5:Nat):Int)))<0)),.slice A8 (limbs (Int.natAbs (shl m (-((k5:Nat):Int))))).length c9,.int .i64 (ex+((k5:Nat):Int))]) trivial rfl rfl rfl rfl (fun X=>by kernel_rfl) ?_
   refine Pl.bg (new:=[.bool (decide ((shl m (-((k5:Nat):Int)))<0)),.slice A8 (limbs (Int.natAbs (shl m (-((k5:Nat):Int))))).length c9,.int .i64 (ex+((k5:Nat):Int))]) (Pl.Cb.ex aD (Pl.Ex.trans aO (Pl.Ex.trans aR aP))) (by kernel_rfl) rfl (by simp [Value.oneCell']) rfl rfl rfl rfl rfl rfl (fun Y hY=>trivial) ?_
   intro w6 lS dG
   have aM:=Pl.Ex.xs (Pl.Ex.trans hE2 (Pl.Ex.trans aO (Pl.Ex.trans aR aP))) lS (by omega)
   have jr:=Pl.Xs.size lS
   refine Pl.af ?_
   have k11:=Un.xs rW lS (Pl.Cb.ex aD (Pl.Ex.trans aO (Pl.Ex.trans aR aP))) (by simp)
   repeat refine Pl.ay ?_
   exact Pl.cO rfl rfl dG Tryz.underlying26 rfl (by kernel_rfl) (⟨_,rfl,Dn.mk k11 (tO hk5).1 (tO hk5).2 (zY lm (by omega)) (by omega) (by omega),(Pl.Ex.trans hE1 aM)⟩)
def M0 (x:Rat) (k:Int):Prop := -1≤k∧k≤1∧(k<0↔x<0)∧(k=0↔x=0)∧(0<k↔0<x)
theorem Qt {m e k:Int} {x:Rat} (h:Dy.dv m e=x) (hk:Int.sign m=k):M0 x k:=by
 have h1:=yx hk
 subst h
 have h2:Dy.dv m e<0↔m<0:=by rw [← Dy.vM e,Dy.Ph]
 have h3:0<Dy.dv m e↔0<m:=by rw [← Dy.vM e,Dy.Ph]
 exact ⟨by omega,by omega,by rw [h2];omega,by rw [Dy.EU];omega,by rw [h3];omega⟩
theorem M0.uniq {x:Rat} {j k:Int} (h:M0 x j) (g:M0 x k):j=k:=by
 obtain ⟨a1,a2,a3,a4,a5⟩:=h
 obtain ⟨b1,b2,b3,b4,b5⟩:=g
 rcases Int.lt_trichotomy j 0 with h | h | h
 · have:=b3.2 (a3.1 h);omega
 · have:=b4.2 (a4.1 h);omega
 · have:=b5.2 (a5.1 h);omega
theorem qj (w:World) (va:Value) (x:Rat) (L:Nat) (lo hi:Int) (ha:Dn w va x L lo hi) :
  Calls Tryz.prog 22 #[va] w fun e w'=>∃ k:Int,e = .returned (.int .i64 k)∧M0 x k∧Pl.Ex w w':=by
 obtain ⟨ma,ea,Aa,ca,rfl,ua,da⟩:=ha
 have CF:=da.lo
 have CG:=da.hi
 refine Pl.bL (n:=6) (vs:=[.agg #[.bool (decide (ma<0)),.slice Aa (limbs (Int.natAbs ma)).length ca,.int .i64 ea]]) Tryz.func22 rfl (by kernel_rfl) (by simp) ?_
 repeat refine Pl.ay ?_
 refine Pl.aB (by kernel_rfl) ?_
 refine Pl.dN (cs:=[.bool (decide (ma<0)),.slice Aa (limbs (Int.natAbs ma)).length ca,.int .i64 ea]) rfl rfl rfl rfl rfl rfl (fun Y hY=>trivial) ?_
 intro N1 w1 hE1 eP aC
 have ig:=Pl.Cb.lt aC
 have mH:=Pl.Ex.size hE1
 refine Pl.aG trivial rfl ?_
 refine Pl.af ?_
 repeat refine Pl.ay ?_
 refine Pl.aB (by kernel_rfl) ?_
 refine Pl.bC (.pointer (some ⟨N1,0,none⟩)) trivial rfl rfl rfl rfl (fun X=>by kernel_rfl) ?_
 refine Pl.dJ (part:=[.bool (decide (ma<0)),.slice Aa (limbs (Int.natAbs ma)).length ca]) aC rfl Tryz.underlying24 rfl (by kernel_rfl) trivial rfl rfl rfl rfl rfl ?_
 refine Pl.ah rfl rfl rfl rfl rfl (fun u X=>Pl.enters Tryz.func60 (by kernel_rfl) rfl u X) ?_
 refine Calls.mono (KW _ _ ma (Zn.of (Un.below ua hE1)) _ rfl) ?_
 rintro e w2 ⟨rfl,hE2⟩
 obtain ⟨k2,QC⟩:∃ q,Int.sign ma=q:=⟨_,rfl⟩
 rw [QC]
 have gk2:=yx QC
 have mY:=Pl.Ex.size hE2
 refine ⟨_,rfl,trivial,?_⟩
 refine Pl.aG trivial rfl ?_
 refine Pl.af ?_
 repeat refine Pl.ay ?_
 exact Pl.dU rfl rfl  (⟨k2,rfl,Qt da.val QC,(Pl.Ex.trans hE1 hE2)⟩)
theorem Gn (w:World) (n:Int) (h0:0≤n) (h1:n≤100000) :
  Calls Tryz.prog 81 #[.int .i64 n] w fun e w'=>∃ u,e = .returned u∧Zn w' u (shl 1 n)∧Pl.Ex w w':=by
 refine Pl.bL (n:=6) (vs:=[.int .i64 n]) Tryz.func81 rfl (by kernel_rfl) (by simp) ?_
 repeat refine Pl.ay ?_
 refine Pl.aB (by kernel_rfl) ?_
 refine Pl.aU (z:=.agg #[.bool false,.slice none 0 0]) (by kernel_rfl) rfl rfl rfl rfl (fun Y hY=>trivial) ?_
 intro N1 w1 hE1 eP aC
 have ig:=Pl.Cb.lt aC
 have mH:=Pl.Ex.size hE1
 replace aC:Pl.Cb w1 N1 24 [.bool false,.slice none 0 0]:=aC
 refine Pl.af ?_
 repeat refine Pl.ay ?_
 refine Pl.aB (by kernel_rfl) ?_
 refine Pl.ah rfl rfl rfl rfl rfl (fun u X=>Pl.enters Tryz.func117 (by kernel_rfl) rfl u X) ?_
 refine Calls.mono (zof _ 1 (by decide) (by decide)) ?_
 rintro e w2 ⟨v2,rfl,hv2,hE2⟩
 obtain ⟨A3,c4,rfl,u5⟩:=hv2
 have mY:=Pl.Ex.size hE2
 refine ⟨_,rfl,trivial,?_⟩
 refine Pl.aG trivial rfl ?_
 refine Pl.ah rfl rfl rfl rfl rfl (fun u X=>Pl.enters Tryz.func65 (by kernel_rfl) rfl u X) ?_
 refine Calls.mono (lH _ _ 1 n (Zn.of u5) (Sz.le (Sz.lit (K:=1) (by decide) (by decide)) (by decide)) (by omega) (by omega) (shl 1 n) rfl) ?_
 rintro e w3 ⟨v6,rfl,hv6,aO⟩
 obtain ⟨A7,c8,rfl,u9⟩:=hv6
 have mZ:=Pl.Ex.size aO
 refine ⟨_,rfl,trivial,?_⟩
 refine Pl.bg (new:=[.bool (decide ((shl 1 n)<0)),.slice A7 (limbs (Int.natAbs (shl 1 n))).length c8]) (Pl.Cb.ex aC (Pl.Ex.trans hE2 aO)) (by kernel_rfl) rfl (by simp [Value.oneCell']) rfl rfl rfl rfl rfl rfl (fun Y hY=>trivial) ?_
 intro w4 yH lF
 have aR:=Pl.Ex.xs (Pl.Ex.trans hE1 (Pl.Ex.trans hE2 aO)) yH (by omega)
 have l9:=Pl.Xs.size yH
 refine Pl.af ?_
 have k10:=Un.xs u9 yH (Pl.Cb.ex aC (Pl.Ex.trans hE2 aO)) (by simp)
 repeat refine Pl.ay ?_
 exact Pl.cO rfl rfl lF Tryz.underlying24 rfl (by kernel_rfl) (⟨_,rfl,Zn.of k10,aR⟩)
end Go.Proofs.YtdpmbgomcjnohaaGreatDoor
