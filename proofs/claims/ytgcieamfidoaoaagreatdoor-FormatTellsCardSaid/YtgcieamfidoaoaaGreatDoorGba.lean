/- Base. -/
import Derived.Test.YtgcieamfidoaoaaGreatDoorGaz
import Derived.Test.YtgcieamfidoaoaaGreatDoorGay
set_option linter.all false
set_option maxHeartbeats 8000000
namespace Go.Proofs.YtgcieamfidoaoaaGreatDoor
open Go.Proofs.Tryz
open Go.RowKit
theorem JG (p q:Bool) (n m:Nat):sg (!(p==q)) (n*m)=sg p n*sg q m:=by cases p<;>cases q<;>simp [sg,Int.mul_neg,Int.neg_mul]
set_option maxRecDepth 100000 in
theorem YN (w:World) (va vb:Value) (a b:Int) (ha:Zn w va a) (hb:Zn w vb b) (hl:(limbs a.natAbs).length≤78) (hl2:(limbs b.natAbs).length≤78) (y:Int) (hy:a*b=y) :A0m 51 #[va,vb] w y:=by
 obtain ⟨p,A,L,c,n,rfl,hu,hL,hz,-,hza,hzn⟩:=ha.open;obtain ⟨q,B,K,d,m,rfl,hv,hK,hz2,-,lH,pR⟩:=hb.open;rw [hza] at hl;rw [lH] at hl2;obtain ⟨k,hk⟩:∃ k,n*m=k:=⟨_,rfl⟩;have hM:=Lib.hid (fun W h g=>mulN W (.slice A L c) (.slice B K d) n m k h g hl hl2 hk);have U5:=Lib.hid (fun W v (h:Un W v k)=>l5 W (!(p==q)) v (limbs k) h k (aM _) y (by rw [← hk,JG,← hz,← hz2];exact hy));have hE0:=((((Ext.refl w).alloc (.cells #[.bool p,.slice A L c] 34)).alloc (.cells #[.bool q,.slice B K d] 34)).alloc (.cells #[.bool false,.slice none 0 0] 34)).drew;have hI0:=(Ib.wP w (.cells #[.bool p,.slice A L c] 34) (.cells #[.bool q,.slice B K d] 34) false (.slice none 0 0) 34).ext (Ext.refl _).drew;have ou:=(Ib.new w p (.slice A L c) 34).ext ((((Ext.refl _).alloc (.cells #[.bool q,.slice B K d] 34)).alloc (.cells #[.bool false,.slice none 0 0] 34)).drew);have nL:=(Ib.new2 w (.cells #[.bool p,.slice A L c] 34) q (.slice B K d) 34).ext (((Ext.refl _).alloc (.cells #[.bool false,.slice none 0 0] 34)).drew);have hu0:=hu.below hE0;have hv0:=hv.below hE0;obtain ⟨p0,p1,p2,p3,p4⟩:=id ou;obtain ⟨q0,q1,q2,q3,q4⟩:=id nL;clear hl hl2 hza hzn lH pR hz hz2 hL hK ha hb hy hk;go_enter func51,ntmps51;have hS0:(w.heap.size+1+1<(((w.alloc (.cells #[.bool p,.slice A L c] 34)).alloc (.cells #[.bool q,.slice B K d] 34)).alloc (.cells #[.bool false,.slice none 0 0] 34)).drew.heap.size∧(((w.alloc (.cells #[.bool p,.slice A L c] 34)).alloc (.cells #[.bool q,.slice B K d] 34)).alloc (.cells #[.bool false,.slice none 0 0] 34)).drew.cell? ⟨w.heap.size,0,none⟩=some (.bool p)∧(((w.alloc (.cells #[.bool p,.slice A L c] 34)).alloc (.cells #[.bool q,.slice B K d] 34)).alloc (.cells #[.bool false,.slice none 0 0] 34)).drew.cell? ⟨w.heap.size,1,none⟩=some (.slice A L c)∧(((w.alloc (.cells #[.bool p,.slice A L c] 34)).alloc (.cells #[.bool q,.slice B K d] 34)).alloc (.cells #[.bool false,.slice none 0 0] 34)).drew.cell? ⟨w.heap.size+1,0,none⟩=some (.bool q)∧(((w.alloc (.cells #[.bool p,.slice A L c] 34)).alloc (.cells #[.bool q,.slice B K d] 34)).alloc (.cells #[.bool false,.slice none 0 0] 34)).drew.cell? ⟨w.heap.size+1,1,none⟩=some (.slice B K d))∧Ext w (((w.alloc (.cells #[.bool p,.slice A L c] 34)).alloc (.cells #[.bool q,.slice B K d] 34)).alloc (.cells #[.bool false,.slice none 0 0] 34)).drew:=⟨⟨by simp,p1,p2,q1,q2⟩,hE0⟩;clear p0 p1 p2 p3 p4 q0 q1 q2 q3 q4;go_wp2
 go_region_held3 (fun X=>(w.heap.size+1+1<X.heap.size∧X.cell? ⟨w.heap.size,0,none⟩=some (.bool p)∧X.cell? ⟨w.heap.size,1,none⟩=some (.slice A L c)∧X.cell? ⟨w.heap.size+1,0,none⟩=some (.bool q)∧X.cell? ⟨w.heap.size+1,1,none⟩=some (.slice B K d))∧Ext w X)
  (first
   | exact hS0
   | exact zg (by assumption) (by assumption)
   | exact zh (by assumption))
  (first
   | (go_at_call 94;((with_reducible refine (hM.out _ hu0 hv0).mono ?_);rintro e w2 ⟨u,rfl,hu2,hE2⟩;obtain ⟨A2,c2,rfl,hc2⟩:=Un.sh hu2))
   | (go_at_call 49;((with_reducible refine (U5.out _ _ hu2).mono ?_);rintro e w3 ⟨u,rfl,hz3,fV⟩;obtain ⟨b3,A3,L3,c3,rfl⟩:=hz3.sh;have nJ:=(hI0.ext hE2).ext fV;obtain ⟨i0,i1,i2,i3,i4⟩:=id nJ)))
 clear nJ hM U5;go_wp2
 (try simp only [Exit.inBlock,Exit.then])
 refine bodyPost_ret (v:=.agg #[.bool b3,.slice A3 L3 c3]) (show (results _ _).run _ _=_ from ?_) rfl ⟨_,rfl,hz3.gB ((hI0.ext hE2).ext fV) (bD _ _ _) _ _,((hE0.below hE2).below fV).gB (by omega) _ _⟩;simp only [results];go_simp
set_option maxRecDepth 100000 in
theorem fP (w:World) (b:Bool) (v:Value) (xs:List Nat) (hu:U w v xs) (hlen:xs.length≤1000000000) (n:Nat) (hn:val xs=n) (z:Int) (hz:sg b n=z) :A0m 55 #[.bool b,v] w z:=by
 have hM:=Lib.hid (fun W h=>Ef W v xs h hlen n hn);have hE0:=(Ext.refl w).alloc (.cells #[.bool false,.slice none 0 0] 34);have hI0:=Ib.new w false (.slice none 0 0) 34;have hu0:=hu.below hE0;have hza:z.natAbs=n:=by rw [← hz,sW]
 have hzn:decide (z<0)=(b&&decide (0<n)):=by rw [← hz,Wu]
 obtain ⟨L,hL⟩:∃ L,(limbs n).length=L:=⟨_,rfl⟩;have hc:=qP n;rw [hL] at hc;have HL:=Lib.hid hL;have HZ:=Lib.hid (And.intro hza hzn);obtain ⟨A0,c0,rfl,-⟩:=id hu;obtain ⟨l0,hl0⟩:∃ l,xs.length=l:=⟨_,rfl⟩;rw [hl0] at hM hu0 ⊢;clear hl0;rcases hc with ⟨h1,rfl⟩ | ⟨h1,h2⟩
 · subst h1;cases b
   all_goals (
    go_enter func55,ntmps55;go_wp2_with (go_at_call 100;refine (hM.out _ hu0).mono ?_;rintro e w2 ⟨u,rfl,hu2,hE2⟩;obtain ⟨A,c,rfl,hc⟩:=Un.sh hu2;rw [HL.out] at hu2 ⊢;clear hc;have hI2:=hI0.ext hE2;obtain ⟨i0,i1,i2,i3,i4⟩:=id hI2)
    (try simp only [Exit.inBlock,Exit.then])
    refine bodyPost_ret (v:=.agg #[.bool false,.slice A 0 c]) (show (results _ _).run _ _=_ from ?_) rfl ⟨_,rfl,Zn.mk' (Un.gB hu2 hI2 (bD _ _ _) _ _) HL.out HZ.out.1 HZ.out.2,(hE0.below hE2).gB (Nat.le_refl _) _ _⟩;simp only [results];go_simp)
 · have h3:(0:Int)<(L:Int):=(by omega);have hb0:Hid (decide (0<n)=true):=decide_eq_true (by omega);cases b
   case' false=>have HS:Hid (decide (z<0)=false):=by show _=_;rw [HZ.out.2];rfl
   case' true=>have HS:Hid (decide (z<0)=true):=by show _=_;rw [HZ.out.2,hb0.out];rfl
   all_goals (
    go_enter func55,ntmps55;go_wp2_with (go_at_call 100;refine (hM.out _ hu0).mono ?_;rintro e w2 ⟨u,rfl,hu2,hE2⟩;obtain ⟨A,c,rfl,hc⟩:=Un.sh hu2;rw [HL.out] at hu2 ⊢;clear hc;have hI2:=hI0.ext hE2;obtain ⟨i0,i1,i2,i3,i4⟩:=id hI2)
    (try simp only [Exit.inBlock,Exit.then])
    refine bodyPost_ret (v:=.agg #[.bool _,.slice A L c]) (show (results _ _).run _ _=_ from ?_) rfl ⟨_,rfl,Zn.mk' (Un.gB hu2 hI2 (bD _ _ _) _ _) HL.out HZ.out.1 HS.out,(hE0.below hE2).gB (Nat.le_refl _) _ _⟩;simp only [results];go_simp)
set_option maxRecDepth 100000 in
theorem Ql (w:World) (v:Value) (z:Int) (h:Zn w v z) (hlz:(limbs z.natAbs).length≤1000000) (y:Int) (hy : -z=y) :A0m 84 #[v] w y:=by obtain ⟨b,A,L,c,n,rfl,hu,hL,hz,hb,hza,hzn⟩:=h.open;have hE0:=((Ext.refl w).alloc (.cells #[.bool b,.slice A L c] 34)).alloc (.cells #[.bool false,.slice none 0 0] 34);have hI0:=Ib.new2 w (.cells #[.bool b,.slice A L c] 34) false (.slice none 0 0) 34;have hu0:=hu.below hE0;have hM:=Lib.hid (fun W h=>fP W (!b) (.slice A L c) (limbs n) h (by rw [hza] at hlz;omega) n (aM n) y (by rw [acZ,← hz];exact hy));clear hlz hz hb hza hzn hL hy h;go_enter func84,ntmps84;go_wp2_with (go_at_call 55;refine (hM.out _ hu0).mono ?_;rintro e w2 ⟨u,rfl,hz2,hE2⟩;obtain ⟨b2,A2,L2,c2,rfl⟩:=hz2.sh;have hI2:=hI0.ext hE2;obtain ⟨i0,i1,i2,i3,i4⟩:=id hI2);refine bodyPost_ret (v:=.agg #[.bool b2,.slice A2 L2 c2]) (show (results _ _).run _ _=_ from ?_) rfl ⟨_,rfl,hz2.gB hI2 (bD _ _ _) _ _,(hE0.below hE2).gB (by simp) _ _⟩;simp only [results];go_simp
set_option maxRecDepth 100000 in
theorem abd (w:World) (k:Int) (h0:0≤k) (h1:k<18446744073709551616) (n:Nat) (hn:k.toNat=n) :A0l 107 #[.int .u64 k] w n:=by
 obtain ⟨m,rfl⟩:=Int.eq_ofNat_of_zero_le h0;rw [Int.toNat_natCast] at hn;subst hn;obtain ⟨r,hr⟩:∃ r,m%4294967296=r:=⟨_,rfl⟩;obtain ⟨q,hq⟩:∃ q,m/4294967296=q:=⟨_,rfl⟩;have hrb:r<4294967296:=by omega
 have Rz:q<4294967296:=by omega
 have hv:val [r,q]=m:=by simp only [val];omega
 have hu:=Lib.hid (fun W=>Lj W [r,q] (by simp;omega) (by simp));have o2:(m:Int)%4294967296=(r:Int):=by omega
 have o4:(m:Int)/4294967296=(q:Int):=by omega
 have o5:(r:Int)%4294967296=(r:Int):=by omega
 have o6:(q:Int)%4294967296=(q:Int):=by omega
 have o7:IntKind.u32.wrap (r:Int)=(r:Int):=by rw [IntKind.wrap_u32];omega
 have o8:IntKind.u32.wrap (q:Int)=(q:Int):=by rw [IntKind.wrap_u32];omega
 have o9:IntKind.u64.wrap (q:Int)=(q:Int):=by rw [IntKind.wrap_u64];omega
 have hM:=Lib.hid (fun W v h=>Ef W v [r,q] h (by simp) m hv);clear hr hq hv h0;go_enter func107,ntmps107;go_wp2_with (go_at_call 100;refine (hM.out _ _ (hu.out w)).mono ?_;rintro e w2 ⟨u,rfl,hu2,hE2⟩;obtain ⟨A2,c2,rfl,-⟩:=Un.sh hu2);go_ret;exact ⟨_,rfl,hu2,((Ext.refl w).alloc _).below hE2⟩
set_option maxRecDepth 100000 in
theorem gQ (w:World) (z:Int) (h1 : -9223372036854775808≤z) (h2:z≤9223372036854775807) :A0m 60 #[.int .i64 z] w z:=by
 have hE0:=(Ext.refl w).alloc (.cells #[.bool false,.slice none 0 0] 34);have hI0:=Ib.new w false (.slice none 0 0) 34;by_cases h0:z<0
 · obtain ⟨m,hm⟩:∃ m:Nat,-z=(m:Int):=⟨(-z).toNat,by omega⟩;obtain ⟨k,hk⟩:∃ k:Nat,z+18446744073709551616=(k:Int):=⟨(z+18446744073709551616).toNat,by omega⟩;have o1:z%18446744073709551616=(k:Int):=(by omega);have o2:IntKind.u64.wrap z=(k:Int):=(by rw [IntKind.wrap_u64];omega);have o3:(-(k:Int))%18446744073709551616=(m:Int):=(by omega);have o4:IntKind.u64.wrap (-(k:Int))=(m:Int):=(by rw [IntKind.wrap_u64];omega);have hM:=Lib.hid (fun W v h=>fP W true v (limbs m) h (by have:=lQ (k:=2) (show m<LB^2 by unfold LB;omega);omega) m (aM m) z (by rw [QC];omega));have hOf:=Lib.hid (fun W=>abd W (m:Int) (by omega) (by omega) m (by simp));clear hm hk;go_enter func60,ntmps60
   go_wp2_with (first
    | (go_at_call 107;refine (hOf.out _).mono ?_;rintro e w2 ⟨u,rfl,hu2,hE2⟩;obtain ⟨A2,c2,rfl,hc2⟩:=Un.sh hu2)
    | (go_at_call 55;refine (hM.out _ _ hu2).mono ?_;rintro e w3 ⟨u,rfl,hz3,fV⟩;obtain ⟨b3,A3,L3,c3,rfl⟩:=hz3.sh;have nJ:=(hI0.ext hE2).ext fV;obtain ⟨i0,i1,i2,i3,i4⟩:=id nJ))
   (try simp only [Exit.inBlock,Exit.then])
   refine bodyPost_ret (v:=.agg #[.bool b3,.slice A3 L3 c3]) (show (results _ _).run _ _=_ from ?_) rfl ⟨_,rfl,hz3.gB nJ (bD _ _ _) _ _,((hE0.below hE2).below fV).gB (by simp) _ _⟩;simp only [results];go_simp
 · obtain ⟨m,rfl⟩:=Int.eq_ofNat_of_zero_le (show 0≤z by omega);have o1:(m:Int)%18446744073709551616=(m:Int):=(by omega);have hM:=Lib.hid (fun W v h=>fP W false v (limbs m) h (by have:=lQ (k:=2) (show m<LB^2 by unfold LB;omega);omega) m (aM m) (m:Int) rfl);have hOf:=Lib.hid (fun W=>abd W (m:Int) (by omega) (by omega) m (by simp));go_enter func60,ntmps60
   go_wp2_with (first
    | (go_at_call 107;refine (hOf.out _).mono ?_;rintro e w2 ⟨u,rfl,hu2,hE2⟩;obtain ⟨A2,c2,rfl,hc2⟩:=Un.sh hu2)
    | (go_at_call 55;refine (hM.out _ _ hu2).mono ?_;rintro e w3 ⟨u,rfl,hz3,fV⟩;obtain ⟨b3,A3,L3,c3,rfl⟩:=hz3.sh;have nJ:=(hI0.ext hE2).ext fV;obtain ⟨i0,i1,i2,i3,i4⟩:=id nJ))
   (try simp only [Exit.inBlock,Exit.then])
   refine bodyPost_ret (v:=.agg #[.bool b3,.slice A3 L3 c3]) (show (results _ _).run _ _=_ from ?_) rfl ⟨_,rfl,hz3.gB nJ (bD _ _ _) _ _,((hE0.below hE2).below fV).gB (by simp) _ _⟩;simp only [results];go_simp
set_option maxRecDepth 100000 in
theorem Ff (w:World) (va vb:Value) (a b:Int) (ha:Zn w va a) (hb:Zn w vb b) (hl:(limbs a.natAbs).length≤1000000) (hl2:(limbs b.natAbs).length≤1000000) (k:Int) (hk:dA a b=k) :A0k 78 #[va,vb] w (.int .i64 k):=by
 obtain ⟨p,A,L,c,n,rfl,hu,hL,hz,-,hza,hzn⟩:=ha.open;obtain ⟨q,B,K,d,m,rfl,hv,hK,hz2,-,lH,pR⟩:=hb.open;rw [hza] at hl;rw [lH] at hl2;have hE0:=((Ext.refl w).alloc (.cells #[.bool p,.slice A L c] 34)).alloc (.cells #[.bool q,.slice B K d] 34);have hu0:=hu.below hE0;have hv0:=hv.below hE0;have MJ:decide (a<0)=p:=hzn;have MK:decide (b<0)=q:=pR;cases p<;>cases q
 case' false.false =>have hC:=Lib.hid (iB _ (.slice A L c) (.slice B K d) n m hu0 hv0 (by omega) (by omega) k (by have h1:=of_decide_eq_false MJ;have h2:=of_decide_eq_false MK;rw [← hk,show a=(n:Int) by omega,show b=(m:Int) by omega]))
 case' true.true =>have hC:=Lib.hid (iB _ (.slice B K d) (.slice A L c) m n hv0 hu0 (by omega) (by omega) k (by have h1:=of_decide_eq_true MJ;have h2:=of_decide_eq_true MK;rw [← hk,show a = -(n:Int) by omega,show b = -(m:Int) by omega];unfold dA;(repeat' split)<;>omega))
 case' true.false =>
  have hkk:k = -1:=by have h1:=of_decide_eq_true MJ;have h2:=of_decide_eq_false MK;rw [← hk];exact if_pos (by omega)
  subst hkk
 case' false.true =>
  have hkk:k=1:=by have h1:=of_decide_eq_false MJ;have h2:=of_decide_eq_true MK;rw [← hk];unfold dA;rw [if_neg (by omega),if_pos (by omega)]
  subst hkk
 all_goals (
  clear hl hl2 hza hzn lH pR hz hz2 hL hK ha hb hu hv hk MJ MK hu0 hv0;go_enter func78,ntmps78;go_wp2_with (go_at_call 47;refine hC.out.mono ?_;rintro e w2 ⟨rfl,hE2⟩);go_ret;exact ⟨rfl,by first | exact hE0.below hE2 | exact hE0⟩)
theorem ML (a b:Int):dA a b=0↔a=b:=by unfold dA;(repeat' split)<;>omega
set_option maxRecDepth 100000 in
theorem WB (w:World) (va vb:Value) (a b:Int) (ha:Zn w va a) (hb:Zn w vb b) (hl:(limbs a.natAbs).length≤1000000) (hl2:(limbs b.natAbs).length≤1000000) (r:Bool) (hr:decide (a=b)=r) :A0k 56 #[va,vb] w (.bool r):=by
 have ha':=ha;have hb':=hb;obtain ⟨p,A,L,c,n,rfl,-,-,-,-,-,hzn⟩:=ha.open;obtain ⟨q,B,K,d,m,rfl,-,-,-,-,-,pR⟩:=hb.open;have hE0:=((Ext.refl w).alloc (.cells #[.bool p,.slice A L c] 34)).alloc (.cells #[.bool q,.slice B K d] 34);have ou:=(Ib.new w p (.slice A L c) 34).ext ((Ext.refl _).alloc (.cells #[.bool q,.slice B K d] 34));have nL:=Ib.new2 w (.cells #[.bool p,.slice A L c] 34) q (.slice B K d) 34;obtain ⟨k,hk⟩:∃ k,dA a b=k:=⟨_,rfl⟩;have hC:=Lib.hid (Ff _ _ _ a b (ha'.below hE0) (hb'.below hE0) hl hl2 k hk);by_cases hab:a=b
 · rw [decide_eq_true hab] at hr;subst hr;have hk0:k=0:=(by rw [← hk];exact (ML a b).2 hab);have hpq:p=q:=(by rw [← hzn,← pR,hab]);subst hk0;subst hpq;cases p
   all_goals (
    go_enter func56,ntmps56;go_wp2_with (go_at_call 78;refine hC.out.mono ?_;rintro e w2 ⟨rfl,hE2⟩;obtain ⟨p0,p1,p2,p3,p4⟩:=ou.ext hE2;obtain ⟨q0,q1,q2,q3,q4⟩:=nL.ext hE2);go_ret;exact ⟨by first | rfl | simp,hE0.below hE2⟩)
 · rw [decide_eq_false hab] at hr;subst hr;have hk0:(k==0)=false:=(by rw [beq_eq_false_iff_ne];intro h;exact hab ((ML a b).1 (hk.trans h)));clear hk hab hzn pR hl hl2 ha hb ha' hb';go_enter func56,ntmps56;go_wp2_with (go_at_call 78;refine hC.out.mono ?_;rintro e w2 ⟨rfl,hE2⟩;obtain ⟨p0,p1,p2,p3,p4⟩:=ou.ext hE2;obtain ⟨q0,q1,q2,q3,q4⟩:=nL.ext hE2);go_ret;exact ⟨by first | rfl | simp,hE0.below hE2⟩
theorem uZ (n m:Nat):(limbs (n*m)).length≤(limbs n).length+(limbs m).length:=by refine lQ ?_;rw [Nat.pow_add];exact Nat.mul_lt_mul'' (dS (Nat.le_refl _)) (dS (Nat.le_refl _))
set_option maxRecDepth 100000 in
theorem Em (w:World) (va vb:Value) (a b:Int) (ha:Zn w va a) (hb:Zn w vb b) (hl:(limbs a.natAbs).length≤200) (hl2:(limbs b.natAbs).length≤200) (h0:b≠0) (x y:Int) (hx:a/b=x) (hy:a%b=y) :Calls prog 141 #[va,vb] w fun e w'=>ZdD w w' e x y:=by
 unfold ZdD;obtain ⟨p,A,L,c,n,rfl,hu,hL,hz,-,hza,hzn⟩:=ha.open;obtain ⟨q,B,K,d,m,rfl,hv,hK,hz2,-,lH,pR⟩:=hb.open;rw [hza] at hl;rw [lH] at hl2;have hm0:m≠0:=by omega
 obtain ⟨Q,hQ⟩:∃ Q,n/m=Q:=⟨_,rfl⟩;obtain ⟨R,hR⟩:∃ R,n%m=R:=⟨_,rfl⟩;have hQl:(limbs Q).length≤200:=Nat.le_trans (iK (by rw [← hQ];exact Nat.div_le_self _ _)) hl;have hRm:R<m:=by rw [← hR];exact Nat.mod_lt _ (by omega)
 have hRl:(limbs R).length≤200:=Nat.le_trans (iK (by omega)) hl2;have hE0:=((((Ext.refl w).alloc (.cells #[.bool p,.slice A L c] 34)).alloc (.cells #[.bool q,.slice B K d] 34)).alloc (.cells #[.bool false,.slice none 0 0] 34)).alloc (.cells #[.bool false,.slice none 0 0] 34);have hI0:=(Ib.wP w (.cells #[.bool p,.slice A L c] 34) (.cells #[.bool q,.slice B K d] 34) false (.slice none 0 0) 34).ext ((Ext.refl _).alloc (.cells #[.bool false,.slice none 0 0] 34));have hJ0:=Ib.wP (w.alloc (.cells #[.bool p,.slice A L c] 34)) (.cells #[.bool q,.slice B K d] 34) (.cells #[.bool false,.slice none 0 0] 34) false (.slice none 0 0) 34;have hN:(w.alloc (.cells #[.bool p,.slice A L c] 34)).heap.size=w.heap.size+1:=by simp
 rw [hN] at hJ0;have ou:=(Ib.new w p (.slice A L c) 34).ext ((((Ext.refl _).alloc (.cells #[.bool q,.slice B K d] 34)).alloc (.cells #[.bool false,.slice none 0 0] 34)).alloc (.cells #[.bool false,.slice none 0 0] 34));have nL:=(Ib.new2 w (.cells #[.bool p,.slice A L c] 34) q (.slice B K d) 34).ext (((Ext.refl _).alloc (.cells #[.bool false,.slice none 0 0] 34)).alloc (.cells #[.bool false,.slice none 0 0] 34));have hD:=Lib.hid (Lp _ (.slice A L c) (.slice B K d) n m Q R (hu.below hE0) (hv.below hE0) hl hl2 hm0 hQ hR);have hv0:=hv.below hE0;have hcs:=qP R;obtain ⟨LR,ZJ⟩:∃ L,(limbs R).length=L:=⟨_,rfl⟩;have HLR:=Lib.hid ZJ;rw [ZJ] at hcs;by_cases hsp:p=true∧R≠0
 · obtain ⟨rfl,hR0⟩:=hsp;obtain ⟨k1,k2⟩:=Gl q n m hm0 (by rw [hR];exact hR0);rw [hQ,← hz,← hz2,hx] at k1;rw [hR,← hz,← hz2,hy] at k2;rw [show (!(true==q)) = !q by cases q<;>rfl] at k1;have TF:(limbs (Q+1)).length≤1000000000:=(by have:=iK (show Q+1≤Q+Q+1 by omega);have h5:=uZ (Q+1) 1;have h6:(limbs (Q+1)).length≤(limbs Q).length+1:=(by refine lQ ?_;have h7:Q<LB^(limbs Q).length:=dS (Nat.le_refl _);rw [Nat.pow_succ];have h8:LB^(limbs Q).length*2≤LB^(limbs Q).length*LB:=Nat.mul_le_mul_left _ (by unfold LB;decide);omega);omega);have hmR:(limbs (m-R)).length≤1000000000:=(by have:=iK (show m-R≤m by omega);omega);have hAd:=Lib.hid (fun W v u h g=>sZ W v u Q 1 h g (by omega) (by have:=Ll;have h5:=lQ (k:=1) (show 1<LB^1 by unfold LB;decide);omega) (Q+1) rfl);have hSb:=Lib.hid (fun W v h g=>oH W (.slice B K d) v m R h g (by omega) (by omega) true (decide_eq_true (by omega)) (m-R) rfl);have hM1:=Lib.hid (fun W v (h:Un W v (Q+1))=>fP W (!q) v (limbs (Q+1)) h TF (Q+1) (aM _) x k1);have hM2:=Lib.hid (fun W v (h:Un W v (m-R))=>fP W false v (limbs (m-R)) h hmR (m-R) (aM _) y k2);have hlr:¬ (LR=0):=(by omega);have aiT:((LR:Int)==0)=false:=(by rw [beq_eq_false_iff_ne];omega);clear hl hl2 hza hzn lH pR hz hz2 hL hK ha hb hu hv hN hx hy hQ hR h0 hm0 hcs ZJ k1 k2 hRm hR0 TF hmR hQl hRl;unfold Dv at hD;go_enter func141,ntmps141
   go_upto_region 7 with (first
    | (go_at_call 91;refine hD.out.mono ?_;rintro e w2 ⟨⟨vq,vr,rfl,Au,Ir⟩,hE2⟩;obtain ⟨A2,c2,rfl,-⟩:=Un.sh Au;obtain ⟨A3,c3,rfl,-⟩:=Un.sh Ir;rw [HLR.out] at Ir ⊢;obtain ⟨p0,p1,p2,p3,p4⟩:=ou.ext hE2;obtain ⟨q0,q1,q2,q3,q4⟩:=nL.ext hE2;have hv2:=Un.below hv0 hE2)
    | (go_at_call 85;refine (hSb.out _ _ hv2 Ir).mono ?_;rintro e w3 ⟨u3,rfl,hu3,fV⟩;obtain ⟨A5,c5,rfl,-⟩:=Un.sh hu3))
   have af9:=(((hE0.below hE2).below fV).drew);have nJ:=((hI0.ext hE2).ext fV).ext (Ext.refl _).drew;have hJ3:=((hJ0.ext hE2).ext fV).ext (Ext.refl _).drew;have hP3:=((ou.ext hE2).ext fV).ext (Ext.refl _).drew;have hQ3:=((nL.ext hE2).ext fV).ext (Ext.refl _).drew;have hS0:(w.heap.size+1+1+1<w3.drew.heap.size∧w3.drew.cell? ⟨w.heap.size,0,none⟩=some (.bool true)∧w3.drew.cell? ⟨w.heap.size,1,none⟩=some (.slice A L c)∧w3.drew.cell? ⟨w.heap.size+1,0,none⟩=some (.bool q)∧w3.drew.cell? ⟨w.heap.size+1,1,none⟩=some (.slice B K d))∧Ext w w3.drew:=⟨⟨hJ3.1,hP3.2.1,hP3.2.2.1,hQ3.2.1,hQ3.2.2.1⟩,af9⟩;have aiY:=((Un.below Au fV).below (Ext.refl _).drew);have aiZ:=Un.below hu3 (Ext.refl _).drew;clear hP3 hQ3 ou nL p0 p1 p2 p3 p4 q0 q1 q2 q3 q4
   go_region_held3 (fun X=>(w.heap.size+1+1+1<X.heap.size∧X.cell? ⟨w.heap.size,0,none⟩=some (.bool true)∧X.cell? ⟨w.heap.size,1,none⟩=some (.slice A L c)∧X.cell? ⟨w.heap.size+1,0,none⟩=some (.bool q)∧X.cell? ⟨w.heap.size+1,1,none⟩=some (.slice B K d))∧Ext w X)
    (first
     | assumption
     | with_reducible exact hS0
     | with_reducible exact ZG (by assumption)
     | with_reducible exact ZH (by assumption)
     | exact QE (by assumption) (by assumption)
     | exact QE (by assumption) ((Ext.refl _).alloc _))
    (first
     | (go_at_call 77;(refine (hAd.out _ _ _ (Un.below aiY ((Ext.refl _).alloc _)) (yg _)).mono ?_);rintro e w4 ⟨u4,rfl,LY,jI⟩;have CJ:=((Ext.refl w3.drew).alloc (.cells #[.int .u32 1] 57)).below jI;obtain ⟨A4,c4,rfl,-⟩:=Un.sh LY)
     | (go_at_call 55;((with_reducible refine (hM1.out _ _ LY).mono ?_);rintro e w6 ⟨u6,rfl,Wx,qC⟩;obtain ⟨b6,A6,L6,c6,rfl⟩:=Wx.sh))
     | (go_at_call 55;(have Hw:=Un.below aiZ CJ;have hY7:=Un.below Hw qC;(with_reducible refine (hM2.out _ _ hY7).mono ?_);rintro e w7 ⟨u7,rfl,Sw,rZ⟩;obtain ⟨b7,A7,L7,c7,rfl⟩:=Sw.sh;have OI:=((nJ.ext CJ).ext qC).ext rZ;have OJ:=((hJ3.ext CJ).ext qC).ext rZ;obtain ⟨i0,i1,i2,i3,i4⟩:=id OI;obtain ⟨j0,j1,j2,j3,j4⟩:=id OJ;have Yd:=((af9.below CJ).below qC).below rZ)))
   have hZ6:=Wx.below rZ;have Wy:=Lib.hid OI;have Wz:=Lib.hid OJ;clear OI OJ;go_wp2
   (try simp only [Exit.inBlock,Exit.then])
   refine bodyPost_ret (v:=.tuple #[.agg #[.bool b6,.slice A6 L6 c6],.agg #[.bool b7,.slice A7 L7 c7],.int .i64 0]) (show (results _ _).run _ _=_ from ?_) rfl ⟨⟨_,_,rfl,(hZ6.gB Wy.out (bD _ _ _) _ _).gB (Wz.out.other (by omega) _ _) (bD _ _ _) _ _,(Sw.gB Wy.out (bD _ _ _) _ _).gB (Wz.out.other (by omega) _ _) (bD _ _ _) _ _⟩,(Yd.gB (by omega) _ _).gB (by omega) _ _⟩;simp only [results];go_simp
 · have hpr:p=false∨R=0:=by
    cases p
    · exact .inl rfl
    · right;rcases Nat.eq_zero_or_pos R with h | h
      · exact h
      · exact absurd ⟨rfl,by omega⟩ hsp
   obtain ⟨k1,k2⟩:=CG p q n m hm0 (by rw [hR];exact hpr);rw [hQ,← hz,← hz2,hx] at k1;rw [hR,← hz,← hz2,hy] at k2;have hM1:=Lib.hid (fun W v (h:Un W v Q)=>fP W (!(p==q)) v (limbs Q) h (by omega) Q (aM _) x k1);have hM2:=Lib.hid (fun W v (h:Un W v R)=>fP W false v (limbs R) h (by omega) R (aM _) y k2)
   have hcase:p=false∨(p=true∧LR=0):=by
    rcases hpr with h | h
    · exact .inl h
    · cases p
      · exact .inl rfl
      · exact .inr ⟨rfl,by omega⟩
   clear hl hl2 hza hzn lH pR hz hz2 hL hK ha hb hu hv hN hx hy hQ hR h0 hm0 hcs ZJ k1 k2 hRm hsp hpr;unfold Dv at hD;rcases hcase with rfl | ⟨rfl,rfl⟩
   case' inl=>rw [show (!(false==q))=q by cases q<;>rfl] at hM1
   case' inr=>rw [show (!(true==q)) = !q by cases q<;>rfl] at hM1
   all_goals (
    go_enter func141,ntmps141
    go_upto_region 5 with (first
     | (go_at_call 91;refine hD.out.mono ?_;rintro e w5 ⟨⟨vq,vr,rfl,Au,Ir⟩,nU⟩;obtain ⟨A2,c2,rfl,-⟩:=Un.sh Au;obtain ⟨A3,c3,rfl,-⟩:=Un.sh Ir;rw [HLR.out] at Ir ⊢;obtain ⟨p0,p1,p2,p3,p4⟩:=ou.ext nU;obtain ⟨q0,q1,q2,q3,q4⟩:=nL.ext nU))
    go_wp2_with (fail);refine (hM1.out _ _ Au).mono ?_;rintro e w6 ⟨u6,rfl,Wx,qC⟩;obtain ⟨b6,A6,L6,c6,rfl⟩:=Wx.sh;go_wp2_with (fail);refine (hM2.out _ _ (Un.below Ir qC)).mono ?_;rintro e w7 ⟨u7,rfl,Sw,rZ⟩;obtain ⟨b7,A7,L7,c7,rfl⟩:=Sw.sh;have OI:=((hI0.ext nU).ext qC).ext rZ;have OJ:=((hJ0.ext nU).ext qC).ext rZ;obtain ⟨i0,i1,i2,i3,i4⟩:=id OI;obtain ⟨j0,j1,j2,j3,j4⟩:=id OJ;have Wy:=Lib.hid OI;have Wz:=Lib.hid OJ;have hZ6:=Wx.below rZ;have Yd:=((hE0.below nU).below qC).below rZ;clear OI OJ;go_wp2
    (try simp only [Exit.inBlock,Exit.then])
    refine bodyPost_ret (v:=.tuple #[.agg #[.bool b6,.slice A6 L6 c6],.agg #[.bool b7,.slice A7 L7 c7],.int .i64 0]) (show (results _ _).run _ _=_ from ?_) rfl ⟨⟨_,_,rfl,(hZ6.gB Wy.out (bD _ _ _) _ _).gB (Wz.out.other (by omega) _ _) (bD _ _ _) _ _,(Sw.gB Wy.out (bD _ _ _) _ _).gB (Wz.out.other (by omega) _ _) (bD _ _ _) _ _⟩,(Yd.gB (by omega) _ _).gB (by omega) _ _⟩;simp only [results];go_simp)
set_option maxRecDepth 100000 in
theorem sN (w:World) (va vb:Value) (a b:Int) (ha:Zn w va a) (hb:Zn w vb b) (hl:(limbs a.natAbs).length≤200) (hl2:(limbs b.natAbs).length≤200) (h0:b≠0) (hr:a%b=0) (x:Int) (hx:a/b=x) :Calls prog 106 #[va,vb] w fun e w'=>∃ u,e = .returned (.tuple #[u,.bool true])∧Zn w' u x∧Ext w w':=by
 have ha':=ha;have hb':=hb;obtain ⟨p,A,L,c,rfl⟩:=ha.sh;obtain ⟨q,B,K,d,rfl⟩:=hb.sh;have hE0:=(((Ext.refl w).alloc (.cells #[.bool p,.slice A L c] 34)).alloc (.cells #[.bool q,.slice B K d] 34)).alloc (.cells #[.bool false,.slice none 0 0] 34);have hI0:=Ib.wP w (.cells #[.bool p,.slice A L c] 34) (.cells #[.bool q,.slice B K d] 34) false (.slice none 0 0) 34;have hD:=Lib.hid (Em _ _ _ a b (ha'.below hE0) (hb'.below hE0) hl hl2 h0 x 0 hx hr);clear h0 ha hb ha' hb' hl hl2 hr hx;unfold ZdD at hD;go_enter func106,ntmps106;go_wp2_with (go_at_call 141;refine hD.out.mono ?_;rintro e w2 ⟨⟨x',y,rfl,hx,hy⟩,hE2⟩;obtain ⟨b1,A1,L1,c1,rfl⟩:=hx.sh;obtain ⟨b2,A2,L2,c2,n2,hv2,hu2,hL2,hz2,-,lH,-⟩:=hy.open;subst hv2;obtain rfl:L2=0:=(by { have:=qP n2;omega });clear hL2 hz2 lH;have fV:=((Ext.refl w2).alloc (.cells #[.bool b1,.slice A1 L1 c1] 34)).alloc (.cells #[.bool b2,.slice A2 0 c2] 34);have nJ:=(hI0.ext hE2).ext fV;obtain ⟨i0,i1,i2,i3,i4⟩:=id nJ;have hJ3:=(Ib.new w2 b1 (.slice A1 L1 c1) 34).ext ((Ext.refl _).alloc (.cells #[.bool b2,.slice A2 0 c2] 34));obtain ⟨j0,j1,j2,j3,j4⟩:=id hJ3;have hs:=(hE0.below hE2).size)
 (try simp only [Exit.inBlock,Exit.then])
 refine bodyPost_ret (v:=.tuple #[.agg #[.bool b1,.slice A1 L1 c1],.bool true]) (show (results _ _).run _ _=_ from ?_) rfl ⟨_,rfl,(hx.below fV).gB nJ (bD _ _ _) _ _,((hE0.below hE2).below fV).gB (by omega) _ _⟩;simp only [results];go_simp
def shl (a s:Int):Int:=if 0≤s then a*2^s.toNat else a/2^(-s).toNat
set_option maxRecDepth 100000
theorem Dn.zero (w:World) (L:Nat) {lo hi:Int} (h1:lo≤0) (h2:0≤hi):Dn w (.agg #[.bool false,.slice none 0 0,.int .i64 0]) 0 L lo hi:=by
 refine ⟨0,0,none,0,?_,?_,.inl ⟨rfl,rfl⟩,Dy.aaa 0,Sz.zero,h1,h2⟩
 · show _=Value.agg #[.bool false,.slice none (limbs 0).length 0,.int .i64 0];rw [bF];rfl
 · show Un w (.slice none (limbs 0).length 0) 0;rw [bF];exact Un.aiR _ _ _
