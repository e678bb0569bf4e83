/- Whole numbers: products. -/
import Derived.Test.YtgcieamfidoaoaaGreatDoorEav
import Derived.Test.YtgcieamfidoaoaaGreatDoorEat
import Derived.Test.YtgcieamfidoaoaaGreatDoorEau
import Derived.Test.YtgcieamfidoaoaaGreatDoorEax
import Derived.Test.YtgcieamfidoaoaaGreatDoorEaz
import Derived.Test.YtgcieamfidoaoaaGreatDoorEaw
import Derived.Test.YtgcieamfidoaoaaGreatDoorEan
import Derived.Test.YtgcieamfidoaoaaGreatDoorEay
import Derived.Laws.IdiomArrays
import Derived.WideKeyPair
import Derived.WideKeyArr2
import Derived.Deep.RegionHeld3
import Derived.Deep.Cut
set_option linter.all false
set_option maxHeartbeats 8000000
namespace Go.Proofs.YtgcieamfidoaoaaGreatDoor
open Go.RowKit
theorem Kj (p q:Bool) (n m:Nat):sg (!(p==q)) (n*m)=sg p n*sg q m:=by
 cases p<;>cases q<;>simp [sg,Int.mul_neg,Int.neg_mul]
set_option maxRecDepth 100000 in
theorem Um (w:World) (va vb:Value) (a b:Int) (ha:Zn w va a) (hb:Zn w vb b) (hl:(limbs a.natAbs).length≤78) (hl2:(limbs b.natAbs).length≤78) (y:Int) (hy:a*b=y) :
  Calls Tryz.prog 51 #[va,vb] w fun e w'=>∃ u,e = .returned u∧Zn w' u y∧Ext w w':=by
 obtain ⟨p,A,L,c,n,rfl,hu,hL,hz,-,hza,hzn⟩:=ha.open
 obtain ⟨q,B,K,d,m,rfl,hv,hK,hz2,-,mF,pJ⟩:=hb.open
 rw [hza] at hl
 rw [mF] at hl2
 obtain ⟨k,hk⟩:∃ k,n*m=k:=⟨_,rfl⟩
 have hM:=Lib.hid (fun W h g=>mulN W (.slice A L c) (.slice B K d) n m k h g hl hl2 hk)
 have WA:=Lib.hid (fun W v (h:Un W v k)=>kL W (!(p==q)) v (limbs k) h k (aJ _) y (by rw [← hk,Kj,← hz,← hz2];exact hy))
 have hE0:=((((Ext.refl w).alloc (.cells #[.bool p,.slice A L c] 34)).alloc (.cells #[.bool q,.slice B K d] 34)).alloc (.cells #[.bool false,.slice none 0 0] 34)).drew
 have hI0:=(Ib.DR w (.cells #[.bool p,.slice A L c] 34) (.cells #[.bool q,.slice B K d] 34) false (.slice none 0 0) 34).ext (Ext.refl _).drew
 have uF:=(Ib.new w p (.slice A L c) 34).ext ((((Ext.refl _).alloc (.cells #[.bool q,.slice B K d] 34)).alloc (.cells #[.bool false,.slice none 0 0] 34)).drew)
 have uO:=(Ib.new2 w (.cells #[.bool p,.slice A L c] 34) q (.slice B K d) 34).ext (((Ext.refl _).alloc (.cells #[.bool false,.slice none 0 0] 34)).drew)
 have hu0:=hu.below hE0
 have hv0:=hv.below hE0
 obtain ⟨p0,p1,p2,p3,p4⟩:=id uF
 obtain ⟨q0,q1,q2,q3,q4⟩:=id uO
 clear hl hl2 hza hzn mF pJ hz hz2 hL hK ha hb hy hk
 go_enter Tryz.func51,Tryz.ntmps51
 have hS0:(w.heap.size+1+1<(((w.alloc (.cells #[.bool p,.slice A L c] 34)).alloc (.cells #[.bool q,.slice B K d] 34)).alloc (.cells #[.bool false,.slice none 0 0] 34)).drew.heap.size∧(((w.alloc (.cells #[.bool p,.slice A L c] 34)).alloc (.cells #[.bool q,.slice B K d] 34)).alloc (.cells #[.bool false,.slice none 0 0] 34)).drew.cell? ⟨w.heap.size,0,none⟩=some (.bool p)∧(((w.alloc (.cells #[.bool p,.slice A L c] 34)).alloc (.cells #[.bool q,.slice B K d] 34)).alloc (.cells #[.bool false,.slice none 0 0] 34)).drew.cell? ⟨w.heap.size,1,none⟩=some (.slice A L c)∧(((w.alloc (.cells #[.bool p,.slice A L c] 34)).alloc (.cells #[.bool q,.slice B K d] 34)).alloc (.cells #[.bool false,.slice none 0 0] 34)).drew.cell? ⟨w.heap.size+1,0,none⟩=some (.bool q)∧(((w.alloc (.cells #[.bool p,.slice A L c] 34)).alloc (.cells #[.bool q,.slice B K d] 34)).alloc (.cells #[.bool false,.slice none 0 0] 34)).drew.cell? ⟨w.heap.size+1,1,none⟩=some (.slice B K d))∧Ext w (((w.alloc (.cells #[.bool p,.slice A L c] 34)).alloc (.cells #[.bool q,.slice B K d] 34)).alloc (.cells #[.bool false,.slice none 0 0] 34)).drew:=⟨⟨by simp,p1,p2,q1,q2⟩,hE0⟩
 clear p0 p1 p2 p3 p4 q0 q1 q2 q3 q4
 go_wp2
 go_region_held3 (fun X=>(w.heap.size+1+1<X.heap.size∧X.cell? ⟨w.heap.size,0,none⟩=some (.bool p)∧X.cell? ⟨w.heap.size,1,none⟩=some (.slice A L c)∧X.cell? ⟨w.heap.size+1,0,none⟩=some (.bool q)∧X.cell? ⟨w.heap.size+1,1,none⟩=some (.slice B K d))∧Ext w X)
  (first
   | exact hS0
   | exact Kk (by assumption) (by assumption)
   | exact Kl (by assumption))
  (first
   | (go_at_call 94;((with_reducible refine (hM.out _ hu0 hv0).mono ?_);rintro e w2 ⟨u,rfl,hu2,hE2⟩;obtain ⟨A2,c2,rfl,hc2⟩:=Un.sh hu2))
   | (go_at_call 49;((with_reducible refine (WA.out _ _ hu2).mono ?_);rintro e w3 ⟨u,rfl,hz3,gF⟩;obtain ⟨b3,A3,L3,c3,rfl⟩:=hz3.sh;have sj:=(hI0.ext hE2).ext gF;obtain ⟨i0,i1,i2,i3,i4⟩:=id sj)))
 clear sj hM WA
 go_wp2
 (try simp only [Exit.inBlock,Exit.then])
 refine bodyPost_ret (v:=.agg #[.bool b3,.slice A3 L3 c3]) (show (results _ _).run _ _=_ from ?_) rfl ⟨_,rfl,hz3.gD ((hI0.ext hE2).ext gF) (bC _ _ _) _ _,((hE0.below hE2).below gF).gD (by omega) _ _⟩
 simp only [results]
 go_simp
end Go.Proofs.YtgcieamfidoaoaaGreatDoor
/- The document's whole numbers: made, turned, ordered. -/
namespace Go.Proofs.YtgcieamfidoaoaaGreatDoor
open Go.RowKit
set_option maxRecDepth 100000 in
theorem kG (w:World) (b:Bool) (v:Value) (xs:List Nat) (hu:U w v xs) (hlen:xs.length≤1000000000) (n:Nat) (hn:val xs=n) (z:Int) (hz:sg b n=z) :
  Calls Tryz.prog 55 #[.bool b,v] w fun e w'=>∃ u,e = .returned u∧Zn w' u z∧Ext w w':=by
 have hM:=Lib.hid (fun W h=>Bd W v xs h hlen n hn)
 have hE0:=(Ext.refl w).alloc (.cells #[.bool false,.slice none 0 0] 34)
 have hI0:=Ib.new w false (.slice none 0 0) 34
 have hu0:=hu.below hE0
 have hza:z.natAbs=n:=by rw [← hz,lZ]
 have hzn:decide (z<0)=(b&&decide (0<n)):=by rw [← hz,Rp]
 obtain ⟨L,hL⟩:∃ L,(limbs n).length=L:=⟨_,rfl⟩
 have hc:=oF n
 rw [hL] at hc
 have HL:=Lib.hid hL
 have HZ:=Lib.hid (And.intro hza hzn)
 obtain ⟨A0,c0,rfl,-⟩:=id hu
 obtain ⟨l0,hl0⟩:∃ l,xs.length=l:=⟨_,rfl⟩
 rw [hl0] at hM hu0 ⊢
 clear hl0
 clear hz hn hL hza hzn
 rcases hc with ⟨h1,rfl⟩ | ⟨h1,h2⟩
 · subst h1
   cases b
   all_goals (
    go_enter Tryz.func55,Tryz.ntmps55
    go_wp2_with (go_at_call 100;refine (hM.out _ hu0).mono ?_;rintro e w2 ⟨u,rfl,hu2,hE2⟩;obtain ⟨A,c,rfl,hc⟩:=Un.sh hu2;rw [HL.out] at hu2 ⊢;clear hc;have hI2:=hI0.ext hE2;obtain ⟨i0,i1,i2,i3,i4⟩:=id hI2)
    (try simp only [Exit.inBlock,Exit.then])
    refine bodyPost_ret (v:=.agg #[.bool false,.slice A 0 c]) (show (results _ _).run _ _=_ from ?_) rfl ⟨_,rfl,Zn.mk' (Un.gD hu2 hI2 (bC _ _ _) _ _) HL.out HZ.out.1 HZ.out.2,(hE0.below hE2).gD (Nat.le_refl _) _ _⟩
    simp only [results]
    go_simp)
 · have h3:(0:Int)<(L:Int):=by omega
   have hb0:Hid (decide (0<n)=true):=decide_eq_true (by omega)
   cases b
   case' false=>have HS:Hid (decide (z<0)=false):=by show _=_;rw [HZ.out.2];rfl
   case' true=>have HS:Hid (decide (z<0)=true):=by show _=_;rw [HZ.out.2,hb0.out];rfl
   all_goals (
    go_enter Tryz.func55,Tryz.ntmps55
    go_wp2_with (go_at_call 100;refine (hM.out _ hu0).mono ?_;rintro e w2 ⟨u,rfl,hu2,hE2⟩;obtain ⟨A,c,rfl,hc⟩:=Un.sh hu2;rw [HL.out] at hu2 ⊢;clear hc;have hI2:=hI0.ext hE2;obtain ⟨i0,i1,i2,i3,i4⟩:=id hI2)
    (try simp only [Exit.inBlock,Exit.then])
    refine bodyPost_ret (v:=.agg #[.bool _,.slice A L c]) (show (results _ _).run _ _=_ from ?_) rfl ⟨_,rfl,Zn.mk' (Un.gD hu2 hI2 (bC _ _ _) _ _) HL.out HZ.out.1 HS.out,(hE0.below hE2).gD (Nat.le_refl _) _ _⟩
    simp only [results]
    go_simp)
set_option maxRecDepth 100000 in
theorem WM (w:World) (v:Value) (z:Int) (h:Zn w v z) (hlz:(limbs z.natAbs).length≤1000000) (y:Int) (hy : -z=y) :
  Calls Tryz.prog 84 #[v] w fun e w'=>∃ u,e = .returned u∧Zn w' u y∧Ext w w':=by
 obtain ⟨b,A,L,c,n,rfl,hu,hL,hz,hb,hza,hzn⟩:=h.open
 have hE0:=((Ext.refl w).alloc (.cells #[.bool b,.slice A L c] 34)).alloc (.cells #[.bool false,.slice none 0 0] 34)
 have hI0:=Ib.new2 w (.cells #[.bool b,.slice A L c] 34) false (.slice none 0 0) 34
 have uF:=(Ib.new w b (.slice A L c) 34).ext ((Ext.refl _).alloc (.cells #[.bool false,.slice none 0 0] 34))
 have hu0:=hu.below hE0
 have hM:=Lib.hid (fun W h=>kG W (!b) (.slice A L c) (limbs n) h (by rw [hza] at hlz;omega) n (aJ n) y (by rw [Y1,← hz];exact hy))
 obtain ⟨p0,p1,p2,p3,p4⟩:=id uF
 clear hlz hz hb hza hzn hL hy h
 go_enter Tryz.func84,Tryz.ntmps84
 go_wp2_with (go_at_call 55;refine (hM.out _ hu0).mono ?_;rintro e w2 ⟨u,rfl,hz2,hE2⟩;obtain ⟨b2,A2,L2,c2,rfl⟩:=hz2.sh;have hI2:=hI0.ext hE2;obtain ⟨i0,i1,i2,i3,i4⟩:=id hI2)
 (try simp only [Exit.inBlock,Exit.then])
 refine bodyPost_ret (v:=.agg #[.bool b2,.slice A2 L2 c2]) (show (results _ _).run _ _=_ from ?_) rfl ⟨_,rfl,hz2.gD hI2 (bC _ _ _) _ _,(hE0.below hE2).gD (by simp) _ _⟩
 simp only [results]
 go_simp
set_option maxRecDepth 100000 in
theorem WY (w:World) (k:Int) (h0:0≤k) (h1:k<18446744073709551616) (n:Nat) (hn:k.toNat=n) :
  Calls Tryz.prog 107 #[.int .u64 k] w fun e w'=>∃ u,e = .returned u∧Un w' u n∧Ext w w':=by
 obtain ⟨m,rfl⟩:=Int.eq_ofNat_of_zero_le h0
 rw [Int.toNat_natCast] at hn
 subst hn
 obtain ⟨r,hr⟩:∃ r,m%4294967296=r:=⟨_,rfl⟩
 obtain ⟨q,hq⟩:∃ q,m/4294967296=q:=⟨_,rfl⟩
 have hrb:r<4294967296:=by omega
 have ND:q<4294967296:=by omega
 have hv:val [r,q]=m:=by simp only [val];omega
 have hu:=Lib.hid (fun W=>Hu W [r,q] (by simp;omega) (by simp))
 have o1:(m:Int).tmod 4294967296=(r:Int):=by rw [Int.tmod_eq_emod_of_nonneg (Int.natCast_nonneg _)];omega
 have o2:(m:Int)%4294967296=(r:Int):=by omega
 have o3:(m:Int).tdiv 4294967296=(q:Int):=by rw [Int.tdiv_eq_ediv_of_nonneg (Int.natCast_nonneg _)];omega
 have o4:(m:Int)/4294967296=(q:Int):=by omega
 have o5:(r:Int)%4294967296=(r:Int):=by omega
 have o6:(q:Int)%4294967296=(q:Int):=by omega
 have o7:IntKind.u32.wrap (r:Int)=(r:Int):=by rw [IntKind.wrap_u32];omega
 have o8:IntKind.u32.wrap (q:Int)=(q:Int):=by rw [IntKind.wrap_u32];omega
 have o9:IntKind.u64.wrap (q:Int)=(q:Int):=by rw [IntKind.wrap_u64];omega
 have hM:=Lib.hid (fun W v h=>Bd W v [r,q] h (by simp) m hv)
 clear hr hq hv h0
 go_enter Tryz.func107,Tryz.ntmps107
 go_wp2_with (go_at_call 100;refine (hM.out _ _ (hu.out w)).mono ?_;rintro e w2 ⟨u,rfl,hu2,hE2⟩;obtain ⟨A2,c2,rfl,-⟩:=Un.sh hu2)
 go_ret
 exact ⟨_,rfl,hu2,((Ext.refl w).alloc _).below hE2⟩
set_option maxRecDepth 100000 in
theorem abe (w:World) (z:Int) (h1 : -9223372036854775808≤z) (h2:z≤9223372036854775807) :
  Calls Tryz.prog 60 #[.int .i64 z] w fun e w'=>∃ u,e = .returned u∧Zn w' u z∧Ext w w':=by
 have hE0:=(Ext.refl w).alloc (.cells #[.bool false,.slice none 0 0] 34)
 have hI0:=Ib.new w false (.slice none 0 0) 34
 by_cases h0:z<0
 · obtain ⟨m,hm⟩:∃ m:Nat,-z=(m:Int):=⟨(-z).toNat,by omega⟩
   obtain ⟨k,hk⟩:∃ k:Nat,z+18446744073709551616=(k:Int):=⟨(z+18446744073709551616).toNat,by omega⟩
   have o1:z%18446744073709551616=(k:Int):=by omega
   have o2:IntKind.u64.wrap z=(k:Int):=by rw [IntKind.wrap_u64];omega
   have o3:(-(k:Int))%18446744073709551616=(m:Int):=by omega
   have o4:IntKind.u64.wrap (-(k:Int))=(m:Int):=by rw [IntKind.wrap_u64];omega
   have hM:=Lib.hid (fun W v h=>kG W true v (limbs m) h (by have:=kN (k:=2) (show m<LB^2 by unfold LB;omega);omega) m (aJ m) z (by rw [Mr];omega))
   have hOf:=Lib.hid (fun W=>WY W (m:Int) (by omega) (by omega) m (by simp))
   clear hm hk
   go_enter Tryz.func60,Tryz.ntmps60
   go_wp2_with (first
    | (go_at_call 107;refine (hOf.out _).mono ?_;rintro e w2 ⟨u,rfl,hu2,hE2⟩;obtain ⟨A2,c2,rfl,hc2⟩:=Un.sh hu2)
    | (go_at_call 55;refine (hM.out _ _ hu2).mono ?_;rintro e w3 ⟨u,rfl,hz3,gF⟩;obtain ⟨b3,A3,L3,c3,rfl⟩:=hz3.sh;have sj:=(hI0.ext hE2).ext gF;obtain ⟨i0,i1,i2,i3,i4⟩:=id sj))
   (try simp only [Exit.inBlock,Exit.then])
   refine bodyPost_ret (v:=.agg #[.bool b3,.slice A3 L3 c3]) (show (results _ _).run _ _=_ from ?_) rfl ⟨_,rfl,hz3.gD sj (bC _ _ _) _ _,((hE0.below hE2).below gF).gD (by simp) _ _⟩
   simp only [results]
   go_simp
 · obtain ⟨m,rfl⟩:=Int.eq_ofNat_of_zero_le (show 0≤z by omega)
   have o1:(m:Int)%18446744073709551616=(m:Int):=by omega
   have o2:IntKind.u64.wrap (m:Int)=(m:Int):=by rw [IntKind.wrap_u64];omega
   have hM:=Lib.hid (fun W v h=>kG W false v (limbs m) h (by have:=kN (k:=2) (show m<LB^2 by unfold LB;omega);omega) m (aJ m) (m:Int) rfl)
   have hOf:=Lib.hid (fun W=>WY W (m:Int) (by omega) (by omega) m (by simp))
   go_enter Tryz.func60,Tryz.ntmps60
   go_wp2_with (first
    | (go_at_call 107;refine (hOf.out _).mono ?_;rintro e w2 ⟨u,rfl,hu2,hE2⟩;obtain ⟨A2,c2,rfl,hc2⟩:=Un.sh hu2)
    | (go_at_call 55;refine (hM.out _ _ hu2).mono ?_;rintro e w3 ⟨u,rfl,hz3,gF⟩;obtain ⟨b3,A3,L3,c3,rfl⟩:=hz3.sh;have sj:=(hI0.ext hE2).ext gF;obtain ⟨i0,i1,i2,i3,i4⟩:=id sj))
   (try simp only [Exit.inBlock,Exit.then])
   refine bodyPost_ret (v:=.agg #[.bool b3,.slice A3 L3 c3]) (show (results _ _).run _ _=_ from ?_) rfl ⟨_,rfl,hz3.gD sj (bC _ _ _) _ _,((hE0.below hE2).below gF).gD (by simp) _ _⟩
   simp only [results]
   go_simp
set_option maxRecDepth 100000 in
theorem Q7 (w:World) (va vb:Value) (a b:Int) (ha:Zn w va a) (hb:Zn w vb b) (hl:(limbs a.natAbs).length≤1000000) (hl2:(limbs b.natAbs).length≤1000000) (k:Int) (hk:bN a b=k) :
  Calls Tryz.prog 78 #[va,vb] w fun e w'=>e = .returned (.int .i64 k)∧Ext w w':=by
 obtain ⟨p,A,L,c,n,rfl,hu,hL,hz,-,hza,hzn⟩:=ha.open
 obtain ⟨q,B,K,d,m,rfl,hv,hK,hz2,-,mF,pJ⟩:=hb.open
 rw [hza] at hl
 rw [mF] at hl2
 have hE0:=((Ext.refl w).alloc (.cells #[.bool p,.slice A L c] 34)).alloc (.cells #[.bool q,.slice B K d] 34)
 have hu0:=hu.below hE0
 have hv0:=hv.below hE0
 have IZ:decide (a<0)=p:=hzn
 have I4:decide (b<0)=q:=pJ
 cases p<;>cases q
 case' false.false =>
  have hC:=Lib.hid (jk _ (.slice A L c) (.slice B K d) n m hu0 hv0 (by omega) (by omega) k (by
   have h1:=of_decide_eq_false IZ
   have h2:=of_decide_eq_false I4
   rw [← hk,show a=(n:Int) by omega,show b=(m:Int) by omega]))
 case' true.true =>
  have hC:=Lib.hid (jk _ (.slice B K d) (.slice A L c) m n hv0 hu0 (by omega) (by omega) k (by
   have h1:=of_decide_eq_true IZ
   have h2:=of_decide_eq_true I4
   rw [← hk,show a = -(n:Int) by omega,show b = -(m:Int) by omega]
   unfold bN;(repeat' split)<;>omega))
 case' true.false =>
  have hkk:k = -1:=by
   have h1:=of_decide_eq_true IZ
   have h2:=of_decide_eq_false I4
   rw [← hk];exact if_pos (by omega)
  subst hkk
 case' false.true =>
  have hkk:k=1:=by
   have h1:=of_decide_eq_false IZ
   have h2:=of_decide_eq_true I4
   rw [← hk];unfold bN;rw [if_neg (by omega),if_pos (by omega)]
  subst hkk
 all_goals (
  clear hl hl2 hza hzn mF pJ hz hz2 hL hK ha hb hu hv hk IZ I4 hu0 hv0
  go_enter Tryz.func78,Tryz.ntmps78
  go_wp2_with (go_at_call 47;refine hC.out.mono ?_;rintro e w2 ⟨rfl,hE2⟩)
  go_ret
  exact ⟨rfl,by first | exact hE0.below hE2 | exact hE0⟩)
theorem I5 (a b:Int):bN a b=0↔a=b:=by unfold bN;(repeat' split)<;>omega
set_option maxRecDepth 100000 in
theorem Rz (w:World) (va vb:Value) (a b:Int) (ha:Zn w va a) (hb:Zn w vb b) (hl:(limbs a.natAbs).length≤1000000) (hl2:(limbs b.natAbs).length≤1000000) (r:Bool) (hr:decide (a=b)=r) :
  Calls Tryz.prog 56 #[va,vb] w fun e w'=>e = .returned (.bool r)∧Ext w w':=by
 have ha':=ha
 have hb':=hb
 obtain ⟨p,A,L,c,n,rfl,-,-,-,-,-,hzn⟩:=ha.open
 obtain ⟨q,B,K,d,m,rfl,-,-,-,-,-,pJ⟩:=hb.open
 have hE0:=((Ext.refl w).alloc (.cells #[.bool p,.slice A L c] 34)).alloc (.cells #[.bool q,.slice B K d] 34)
 have uF:=(Ib.new w p (.slice A L c) 34).ext ((Ext.refl _).alloc (.cells #[.bool q,.slice B K d] 34))
 have uO:=Ib.new2 w (.cells #[.bool p,.slice A L c] 34) q (.slice B K d) 34
 obtain ⟨k,hk⟩:∃ k,bN a b=k:=⟨_,rfl⟩
 have hC:=Lib.hid (Q7 _ _ _ a b (ha'.below hE0) (hb'.below hE0) hl hl2 k hk)
 by_cases hab:a=b
 · rw [decide_eq_true hab] at hr
   subst hr
   have hk0:k=0:=by rw [← hk];exact (I5 a b).2 hab
   have hpq:p=q:=by rw [← hzn,← pJ,hab]
   subst hk0
   subst hpq
   clear hk hab hzn pJ hl hl2 ha hb ha' hb'
   cases p
   all_goals (
    go_enter Tryz.func56,Tryz.ntmps56
    go_wp2_with (go_at_call 78;refine hC.out.mono ?_;rintro e w2 ⟨rfl,hE2⟩;obtain ⟨p0,p1,p2,p3,p4⟩:=uF.ext hE2;obtain ⟨q0,q1,q2,q3,q4⟩:=uO.ext hE2)
    go_ret
    exact ⟨by first | rfl | simp,hE0.below hE2⟩)
 · rw [decide_eq_false hab] at hr
   subst hr
   have hk0:(k==0)=false:=by
    rw [beq_eq_false_iff_ne]
    intro h
    exact hab ((I5 a b).1 (hk.trans h))
   clear hk hab hzn pJ hl hl2 ha hb ha' hb'
   go_enter Tryz.func56,Tryz.ntmps56
   go_wp2_with (go_at_call 78;refine hC.out.mono ?_;rintro e w2 ⟨rfl,hE2⟩;obtain ⟨p0,p1,p2,p3,p4⟩:=uF.ext hE2;obtain ⟨q0,q1,q2,q3,q4⟩:=uO.ext hE2)
   go_ret
   exact ⟨by first | rfl | simp,hE0.below hE2⟩
end Go.Proofs.YtgcieamfidoaoaaGreatDoor
/- The document's sums, differences, products. -/
namespace Go.Proofs.YtgcieamfidoaoaaGreatDoor
open Go.RowKit
theorem wG (n m:Nat):(limbs (n*m)).length≤(limbs n).length+(limbs m).length:=by
 refine kN ?_
 rw [Nat.pow_add]
 exact Nat.mul_lt_mul'' (dU (Nat.le_refl _)) (dU (Nat.le_refl _))
end Go.Proofs.YtgcieamfidoaoaaGreatDoor
/- The document's quotients. -/
namespace Go.Proofs.YtgcieamfidoaoaaGreatDoor
open Go.RowKit
set_option maxRecDepth 100000 in
theorem Vj (w:World) (va vb:Value) (a b:Int) (ha:Zn w va a) (hb:Zn w vb b) (hl:(limbs a.natAbs).length≤200) (hl2:(limbs b.natAbs).length≤200) (h0:b≠0) (x y:Int) (hx:a/b=x) (hy:a%b=y) :
  Calls Tryz.prog 141 #[va,vb] w fun e w'=>ZdD w w' e x y:=by
 unfold ZdD
 obtain ⟨p,A,L,c,n,rfl,hu,hL,hz,-,hza,hzn⟩:=ha.open
 obtain ⟨q,B,K,d,m,rfl,hv,hK,hz2,-,mF,pJ⟩:=hb.open
 rw [hza] at hl
 rw [mF] at hl2
 have hm0:m≠0:=by omega
 obtain ⟨Q,hQ⟩:∃ Q,n/m=Q:=⟨_,rfl⟩
 obtain ⟨R,hR⟩:∃ R,n%m=R:=⟨_,rfl⟩
 have hQl:(limbs Q).length≤200:=Nat.le_trans (jr (by rw [← hQ];exact Nat.div_le_self _ _)) hl
 have hRm:R<m:=by rw [← hR];exact Nat.mod_lt _ (by omega)
 have hRl:(limbs R).length≤200:=Nat.le_trans (jr (by omega)) hl2
 have hE0:=((((Ext.refl w).alloc (.cells #[.bool p,.slice A L c] 34)).alloc (.cells #[.bool q,.slice B K d] 34)).alloc (.cells #[.bool false,.slice none 0 0] 34)).alloc (.cells #[.bool false,.slice none 0 0] 34)
 have hI0:=(Ib.DR w (.cells #[.bool p,.slice A L c] 34) (.cells #[.bool q,.slice B K d] 34) false (.slice none 0 0) 34).ext ((Ext.refl _).alloc (.cells #[.bool false,.slice none 0 0] 34))
 have hJ0:=Ib.DR (w.alloc (.cells #[.bool p,.slice A L c] 34)) (.cells #[.bool q,.slice B K d] 34) (.cells #[.bool false,.slice none 0 0] 34) false (.slice none 0 0) 34
 have hN:(w.alloc (.cells #[.bool p,.slice A L c] 34)).heap.size=w.heap.size+1:=by simp
 rw [hN] at hJ0
 have uF:=(Ib.new w p (.slice A L c) 34).ext ((((Ext.refl _).alloc (.cells #[.bool q,.slice B K d] 34)).alloc (.cells #[.bool false,.slice none 0 0] 34)).alloc (.cells #[.bool false,.slice none 0 0] 34))
 have uO:=(Ib.new2 w (.cells #[.bool p,.slice A L c] 34) q (.slice B K d) 34).ext (((Ext.refl _).alloc (.cells #[.bool false,.slice none 0 0] 34)).alloc (.cells #[.bool false,.slice none 0 0] 34))
 have hD:=Lib.hid (sI _ (.slice A L c) (.slice B K d) n m Q R (hu.below hE0) (hv.below hE0) hl hl2 hm0 hQ hR)
 have hv0:=hv.below hE0
 have hcs:=oF R
 obtain ⟨LR,Vf⟩:∃ L,(limbs R).length=L:=⟨_,rfl⟩
 have HLR:=Lib.hid Vf
 rw [Vf] at hcs
 by_cases hsp:p=true∧R≠0
 · obtain ⟨rfl,hR0⟩:=hsp
   obtain ⟨k1,k2⟩:=CE q n m hm0 (by rw [hR];exact hR0)
   rw [hQ,← hz,← hz2,hx] at k1
   rw [hR,← hz,← hz2,hy] at k2
   rw [show (!(true==q)) = !q by cases q<;>rfl] at k1
   have Pv:(limbs (Q+1)).length≤1000000000:=by
    have:=jr (show Q+1≤Q+Q+1 by omega)
    have h5:=wG (Q+1) 1
    have h6:(limbs (Q+1)).length≤(limbs Q).length+1:=by
     refine kN ?_
     have h7:Q<LB^(limbs Q).length:=dU (Nat.le_refl _)
     rw [Nat.pow_succ]
     have h8:LB^(limbs Q).length*2≤LB^(limbs Q).length*LB:=Nat.mul_le_mul_left _ (by unfold LB;decide)
     omega
    omega
   have hmR:(limbs (m-R)).length≤1000000000:=by have:=jr (show m-R≤m by omega);omega
   have hAd:=Lib.hid (fun W v u h g=>Y7 W v u Q 1 h g (by omega) (by have:=Hw;have h5:=kN (k:=1) (show 1<LB^1 by unfold LB;decide);omega) (Q+1) rfl)
   have hSb:=Lib.hid (fun W v h g=>QR W (.slice B K d) v m R h g (by omega) (by omega) true (decide_eq_true (by omega)) (m-R) rfl)
   have hM1:=Lib.hid (fun W v (h:Un W v (Q+1))=>kG W (!q) v (limbs (Q+1)) h Pv (Q+1) (aJ _) x k1)
   have hM2:=Lib.hid (fun W v (h:Un W v (m-R))=>kG W false v (limbs (m-R)) h hmR (m-R) (aJ _) y k2)
   have hlr:¬ (LR=0):=by omega
   have aeY:((LR:Int)==0)=false:=by rw [beq_eq_false_iff_ne];omega
   clear hl hl2 hza hzn mF pJ hz hz2 hL hK ha hb hu hv hN hx hy hQ hR h0 hm0 hcs Vf k1 k2 hRm hR0 Pv hmR hQl hRl
   unfold Dv at hD
   go_enter Tryz.func141,Tryz.ntmps141
   go_upto_region 7 with (first
    | (go_at_call 91;refine hD.out.mono ?_;rintro e w2 ⟨⟨vq,vr,rfl,vO,Eb⟩,hE2⟩;obtain ⟨A2,c2,rfl,-⟩:=Un.sh vO;obtain ⟨A3,c3,rfl,-⟩:=Un.sh Eb;rw [HLR.out] at Eb ⊢;obtain ⟨p0,p1,p2,p3,p4⟩:=uF.ext hE2;obtain ⟨q0,q1,q2,q3,q4⟩:=uO.ext hE2;have hv2:=Un.below hv0 hE2)
    | (go_at_call 85;refine (hSb.out _ _ hv2 Eb).mono ?_;rintro e w3 ⟨u3,rfl,hu3,gF⟩;obtain ⟨A5,c5,rfl,-⟩:=Un.sh hu3))
   have ace:=(((hE0.below hE2).below gF).drew)
   have sj:=((hI0.ext hE2).ext gF).ext (Ext.refl _).drew
   have hJ3:=((hJ0.ext hE2).ext gF).ext (Ext.refl _).drew
   have hP3:=((uF.ext hE2).ext gF).ext (Ext.refl _).drew
   have hQ3:=((uO.ext hE2).ext gF).ext (Ext.refl _).drew
   have hS0:(w.heap.size+1+1+1<w3.drew.heap.size∧w3.drew.cell? ⟨w.heap.size,0,none⟩=some (.bool true)∧w3.drew.cell? ⟨w.heap.size,1,none⟩=some (.slice A L c)∧w3.drew.cell? ⟨w.heap.size+1,0,none⟩=some (.bool q)∧w3.drew.cell? ⟨w.heap.size+1,1,none⟩=some (.slice B K d))∧Ext w w3.drew:=⟨⟨hJ3.1,hP3.2.1,hP3.2.2.1,hQ3.2.1,hQ3.2.2.1⟩,ace⟩
   have ae3:=((Un.below vO gF).below (Ext.refl _).drew)
   have ae4:=Un.below hu3 (Ext.refl _).drew
   clear hP3 hQ3 uF uO p0 p1 p2 p3 p4 q0 q1 q2 q3 q4
   go_region_held3 (fun X=>(w.heap.size+1+1+1<X.heap.size∧X.cell? ⟨w.heap.size,0,none⟩=some (.bool true)∧X.cell? ⟨w.heap.size,1,none⟩=some (.slice A L c)∧X.cell? ⟨w.heap.size+1,0,none⟩=some (.bool q)∧X.cell? ⟨w.heap.size+1,1,none⟩=some (.slice B K d))∧Ext w X)
    (first
     | assumption
     | with_reducible exact hS0
     | with_reducible exact Vb (by assumption)
     | with_reducible exact Vd (by assumption)
     | exact Mt (by assumption) (by assumption)
     | exact Mt (by assumption) ((Ext.refl _).alloc _))
    (first
     | (go_at_call 77;(refine (hAd.out _ _ _ (Un.below ae3 ((Ext.refl _).alloc _)) (uH _)).mono ?_);rintro e w4 ⟨u4,rfl,DU,kM⟩;have zu:=((Ext.refl w3.drew).alloc (.cells #[.int .u32 1] 57)).below kM;obtain ⟨A4,c4,rfl,-⟩:=Un.sh DU)
     | (go_at_call 55;((with_reducible refine (hM1.out _ _ DU).mono ?_);rintro e w6 ⟨u6,rfl,Rv,mG⟩;obtain ⟨b6,A6,L6,c6,rfl⟩:=Rv.sh))
     | (go_at_call 55;(have yQ:=Un.below ae4 zu;have hY7:=Un.below yQ mG;(with_reducible refine (hM2.out _ _ hY7).mono ?_);rintro e w7 ⟨u7,rfl,OA,pg⟩;obtain ⟨b7,A7,L7,c7,rfl⟩:=OA.sh;have KC:=((sj.ext zu).ext mG).ext pg;have KD:=((hJ3.ext zu).ext mG).ext pg;obtain ⟨i0,i1,i2,i3,i4⟩:=id KC;obtain ⟨j0,j1,j2,j3,j4⟩:=id KD;have Y3:=((ace.below zu).below mG).below pg)))
   have Y2:=Rv.below pg
   have Rw:=Lib.hid KC
   have Rx:=Lib.hid KD
   clear KC KD
   go_wp2
   (try simp only [Exit.inBlock,Exit.then])
   refine bodyPost_ret (v:=.tuple #[.agg #[.bool b6,.slice A6 L6 c6],.agg #[.bool b7,.slice A7 L7 c7],.int .i64 0]) (show (results _ _).run _ _=_ from ?_) rfl ⟨⟨_,_,rfl,(Y2.gD Rw.out (bC _ _ _) _ _).gD (Rx.out.other (by omega) _ _) (bC _ _ _) _ _,(OA.gD Rw.out (bC _ _ _) _ _).gD (Rx.out.other (by omega) _ _) (bC _ _ _) _ _⟩,(Y3.gD (by omega) _ _).gD (by omega) _ _⟩
   simp only [results]
   go_simp
 · have hpr:p=false∨R=0:=by
    cases p
    · exact .inl rfl
    · right
      rcases Nat.eq_zero_or_pos R with h | h
      · exact h
      · exact absurd ⟨rfl,by omega⟩ hsp
   obtain ⟨k1,k2⟩:=zq p q n m hm0 (by rw [hR];exact hpr)
   rw [hQ,← hz,← hz2,hx] at k1
   rw [hR,← hz,← hz2,hy] at k2
   have hM1:=Lib.hid (fun W v (h:Un W v Q)=>kG W (!(p==q)) v (limbs Q) h (by omega) Q (aJ _) x k1)
   have hM2:=Lib.hid (fun W v (h:Un W v R)=>kG W false v (limbs R) h (by omega) R (aJ _) y k2)
   have hcase:p=false∨(p=true∧LR=0):=by
    rcases hpr with h | h
    · exact .inl h
    · cases p
      · exact .inl rfl
      · exact .inr ⟨rfl,by omega⟩
   clear hl hl2 hza hzn mF pJ hz hz2 hL hK ha hb hu hv hN hx hy hQ hR h0 hm0 hcs Vf k1 k2 hRm hsp hpr
   unfold Dv at hD
   rcases hcase with rfl | ⟨rfl,rfl⟩
   case' inl=>rw [show (!(false==q))=q by cases q<;>rfl] at hM1
   case' inr=>rw [show (!(true==q)) = !q by cases q<;>rfl] at hM1
   all_goals (
    go_enter Tryz.func141,Tryz.ntmps141
    go_upto_region 5 with (first
     | (go_at_call 91;refine hD.out.mono ?_;rintro e w5 ⟨⟨vq,vr,rfl,vO,Eb⟩,nC⟩;obtain ⟨A2,c2,rfl,-⟩:=Un.sh vO;obtain ⟨A3,c3,rfl,-⟩:=Un.sh Eb;rw [HLR.out] at Eb ⊢;obtain ⟨p0,p1,p2,p3,p4⟩:=uF.ext nC;obtain ⟨q0,q1,q2,q3,q4⟩:=uO.ext nC))
    go_wp2_with (fail)
    refine (hM1.out _ _ vO).mono ?_
    rintro e w6 ⟨u6,rfl,Rv,mG⟩
    obtain ⟨b6,A6,L6,c6,rfl⟩:=Rv.sh
    go_wp2_with (fail)
    refine (hM2.out _ _ (Un.below Eb mG)).mono ?_
    rintro e w7 ⟨u7,rfl,OA,pg⟩
    obtain ⟨b7,A7,L7,c7,rfl⟩:=OA.sh
    have KC:=((hI0.ext nC).ext mG).ext pg
    have KD:=((hJ0.ext nC).ext mG).ext pg
    obtain ⟨i0,i1,i2,i3,i4⟩:=id KC
    obtain ⟨j0,j1,j2,j3,j4⟩:=id KD
    have Rw:=Lib.hid KC
    have Rx:=Lib.hid KD
    have Y2:=Rv.below pg
    have Y3:=((hE0.below nC).below mG).below pg
    clear KC KD
    go_wp2
    (try simp only [Exit.inBlock,Exit.then])
    refine bodyPost_ret (v:=.tuple #[.agg #[.bool b6,.slice A6 L6 c6],.agg #[.bool b7,.slice A7 L7 c7],.int .i64 0]) (show (results _ _).run _ _=_ from ?_) rfl ⟨⟨_,_,rfl,(Y2.gD Rw.out (bC _ _ _) _ _).gD (Rx.out.other (by omega) _ _) (bC _ _ _) _ _,(OA.gD Rw.out (bC _ _ _) _ _).gD (Rx.out.other (by omega) _ _) (bC _ _ _) _ _⟩,(Y3.gD (by omega) _ _).gD (by omega) _ _⟩
    simp only [results]
    go_simp)
end Go.Proofs.YtgcieamfidoaoaaGreatDoor
/- The document's powers, exact quotients. -/
namespace Go.Proofs.YtgcieamfidoaoaaGreatDoor
open Go.RowKit
set_option maxRecDepth 100000 in
theorem pW (w:World) (va vb:Value) (a b:Int) (ha:Zn w va a) (hb:Zn w vb b) (hl:(limbs a.natAbs).length≤200) (hl2:(limbs b.natAbs).length≤200) (h0:b≠0) (hr:a%b=0) (x:Int) (hx:a/b=x) :
  Calls Tryz.prog 106 #[va,vb] w fun e w'=>∃ u,e = .returned (.tuple #[u,.bool true])∧Zn w' u x∧Ext w w':=by
 have ha':=ha
 have hb':=hb
 obtain ⟨p,A,L,c,rfl⟩:=ha.sh
 obtain ⟨q,B,K,d,rfl⟩:=hb.sh
 have hE0:=(((Ext.refl w).alloc (.cells #[.bool p,.slice A L c] 34)).alloc (.cells #[.bool q,.slice B K d] 34)).alloc (.cells #[.bool false,.slice none 0 0] 34)
 have hI0:=Ib.DR w (.cells #[.bool p,.slice A L c] 34) (.cells #[.bool q,.slice B K d] 34) false (.slice none 0 0) 34
 have hD:=Lib.hid (Vj _ _ _ a b (ha'.below hE0) (hb'.below hE0) hl hl2 h0 x 0 hx hr)
 clear h0 ha hb ha' hb' hl hl2 hr hx
 unfold ZdD at hD
 go_enter Tryz.func106,Tryz.ntmps106
 go_wp2_with (go_at_call 141;refine hD.out.mono ?_;rintro e w2 ⟨⟨x',y,rfl,hx,hy⟩,hE2⟩;obtain ⟨b1,A1,L1,c1,rfl⟩:=hx.sh;obtain ⟨b2,A2,L2,c2,n2,hv2,hu2,hL2,hz2,-,mF,-⟩:=hy.open;subst hv2;obtain rfl:L2=0:=(by { have:=oF n2;omega });clear hL2 hz2 mF;have gF:=((Ext.refl w2).alloc (.cells #[.bool b1,.slice A1 L1 c1] 34)).alloc (.cells #[.bool b2,.slice A2 0 c2] 34);have sj:=(hI0.ext hE2).ext gF;obtain ⟨i0,i1,i2,i3,i4⟩:=id sj;have hJ3:=(Ib.new w2 b1 (.slice A1 L1 c1) 34).ext ((Ext.refl _).alloc (.cells #[.bool b2,.slice A2 0 c2] 34));obtain ⟨j0,j1,j2,j3,j4⟩:=id hJ3;have hs:=(hE0.below hE2).size)
 (try simp only [Exit.inBlock,Exit.then])
 refine bodyPost_ret (v:=.tuple #[.agg #[.bool b1,.slice A1 L1 c1],.bool true]) (show (results _ _).run _ _=_ from ?_) rfl ⟨_,rfl,(hx.below gF).gD sj (bC _ _ _) _ _,((hE0.below hE2).below gF).gD (by omega) _ _⟩
 simp only [results]
 go_simp
end Go.Proofs.YtgcieamfidoaoaaGreatDoor
/- Small numbers reckoned, powers and shifts, in the walk by plans. -/
namespace Go.Proofs.YtgcieamfidoaoaaGreatDoor
open Go.RowKit
def shl (a s:Int):Int:=if 0≤s then a*2^s.toNat else a/2^(-s).toNat
end Go.Proofs.YtgcieamfidoaoaaGreatDoor
/- Signs, orders, shifts; what is made of a whole number and a power of 2. -/
namespace Go.Proofs.YtgcieamfidoaoaaGreatDoor
open Go.RowKit
set_option maxRecDepth 100000
theorem Dn.zero (w:World) (L:Nat) {lo hi:Int} (h1:lo≤0) (h2:0≤hi):Dn w (.agg #[.bool false,.slice none 0 0,.int .i64 0]) 0 L lo hi:=by
 refine ⟨0,0,none,0,?_,?_,.inl ⟨rfl,rfl⟩,Dy.VD 0,Sz.zero,h1,h2⟩
 · show _=Value.agg #[.bool false,.slice none (limbs 0).length 0,.int .i64 0]
   rw [aX];rfl
 · show Un w (.slice none (limbs 0).length 0) 0
   rw [aX];exact Un.aeW _ _ _
end Go.Proofs.YtgcieamfidoaoaaGreatDoor
