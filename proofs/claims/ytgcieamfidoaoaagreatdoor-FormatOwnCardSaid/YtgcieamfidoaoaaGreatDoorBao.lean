/- Whole numbers: products. -/
import Derived.Test.YtgcieamfidoaoaaGreatDoorBal
import Derived.Test.YtgcieamfidoaoaaGreatDoorBak
import Derived.Test.YtgcieamfidoaoaaGreatDoorBam
import Derived.Test.YtgcieamfidoaoaaGreatDoorBan
import Derived.Test.YtgcieamfidoaoaaGreatDoorBag
import Derived.Laws.IdiomArrays
import Derived.WideKeyPair
import Derived.WideKeyArr2
import Derived.Deep.RegionHeld3
import Derived.Deep.Cut
set_option linter.all false
set_option maxHeartbeats 8000000
namespace Go.Proofs.YtgcieamfidoaoaaGreatDoor
open Go.RowKit
theorem Kj (p q:Bool) (n m:Nat):sg (!(p==q)) (n*m)=sg p n*sg q m:=by
 cases p<;>cases q<;>simp [sg,Int.mul_neg,Int.neg_mul]
set_option maxRecDepth 100000 in
theorem Um (w:World) (va vb:Value) (a b:Int) (ha:Zn w va a) (hb:Zn w vb b) (hl:(limbs a.natAbs).length≤78) (hl2:(limbs b.natAbs).length≤78) (y:Int) (hy:a*b=y) :
  Calls Tryz.prog 51 #[va,vb] w fun e w'=>∃ u,e = .returned u∧Zn w' u y∧Ext w w':=by
 obtain ⟨p,A,L,c,n,rfl,hu,hL,hz,-,hza,hzn⟩:=ha.open
 obtain ⟨q,B,K,d,m,rfl,hv,hK,hz2,-,mF,pJ⟩:=hb.open
 rw [hza] at hl
 rw [mF] at hl2
 obtain ⟨k,hk⟩:∃ k,n*m=k:=⟨_,rfl⟩
 have hM:=Lib.hid (fun W h g=>mulN W (.slice A L c) (.slice B K d) n m k h g hl hl2 hk)
 have WA:=Lib.hid (fun W v (h:Un W v k)=>kL W (!(p==q)) v (limbs k) h k (aJ _) y (by rw [← hk,Kj,← hz,← hz2];exact hy))
 have hE0:=((((Ext.refl w).alloc (.cells #[.bool p,.slice A L c] 34)).alloc (.cells #[.bool q,.slice B K d] 34)).alloc (.cells #[.bool false,.slice none 0 0] 34)).drew
 have hI0:=(Ib.DR w (.cells #[.bool p,.slice A L c] 34) (.cells #[.bool q,.slice B K d] 34) false (.slice none 0 0) 34).ext (Ext.refl _).drew
 have uF:=(Ib.new w p (.slice A L c) 34).ext ((((Ext.refl _).alloc (.cells #[.bool q,.slice B K d] 34)).alloc (.cells #[.bool false,.slice none 0 0] 34)).drew)
 have uO:=(Ib.new2 w (.cells #[.bool p,.slice A L c] 34) q (.slice B K d) 34).ext (((Ext.refl _).alloc (.cells #[.bool false,.slice none 0 0] 34)).drew)
 have hu0:=hu.below hE0
 have hv0:=hv.below hE0
 obtain ⟨p0,p1,p2,p3,p4⟩:=id uF
 obtain ⟨q0,q1,q2,q3,q4⟩:=id uO
 clear hl hl2 hza hzn mF pJ hz hz2 hL hK ha hb hy hk
 go_enter Tryz.func51,Tryz.ntmps51
 have hS0:(w.heap.size+1+1<(((w.alloc (.cells #[.bool p,.slice A L c] 34)).alloc (.cells #[.bool q,.slice B K d] 34)).alloc (.cells #[.bool false,.slice none 0 0] 34)).drew.heap.size∧(((w.alloc (.cells #[.bool p,.slice A L c] 34)).alloc (.cells #[.bool q,.slice B K d] 34)).alloc (.cells #[.bool false,.slice none 0 0] 34)).drew.cell? ⟨w.heap.size,0,none⟩=some (.bool p)∧(((w.alloc (.cells #[.bool p,.slice A L c] 34)).alloc (.cells #[.bool q,.slice B K d] 34)).alloc (.cells #[.bool false,.slice none 0 0] 34)).drew.cell? ⟨w.heap.size,1,none⟩=some (.slice A L c)∧(((w.alloc (.cells #[.bool p,.slice A L c] 34)).alloc (.cells #[.bool q,.slice B K d] 34)).alloc (.cells #[.bool false,.slice none 0 0] 34)).drew.cell? ⟨w.heap.size+1,0,none⟩=some (.bool q)∧(((w.alloc (.cells #[.bool p,.slice A L c] 34)).alloc (.cells #[.bool q,.slice B K d] 34)).alloc (.cells #[.bool false,.slice none 0 0] 34)).drew.cell? ⟨w.heap.size+1,1,none⟩=some (.slice B K d))∧Ext w (((w.alloc (.cells #[.bool p,.slice A L c] 34)).alloc (.cells #[.bool q,.slice B K d] 34)).alloc (.cells #[.bool false,.slice none 0 0] 34)).drew:=⟨⟨by simp,p1,p2,q1,q2⟩,hE0⟩
 clear p0 p1 p2 p3 p4 q0 q1 q2 q3 q4
 go_wp2
 go_region_held3 (fun X=>(w.heap.size+1+1<X.heap.size∧X.cell? ⟨w.heap.size,0,none⟩=some (.bool p)∧X.cell? ⟨w.heap.size,1,none⟩=some (.slice A L c)∧X.cell? ⟨w.heap.size+1,0,none⟩=some (.bool q)∧X.cell? ⟨w.heap.size+1,1,none⟩=some (.slice B K d))∧Ext w X)
  (first
   | exact hS0
   | exact Kk (by assumption) (by assumption)
   | exact Kl (by assumption))
  (first
   | (go_at_call 94;((with_reducible refine (hM.out _ hu0 hv0).mono ?_);rintro e w2 ⟨u,rfl,hu2,hE2⟩;obtain ⟨A2,c2,rfl,hc2⟩:=Un.sh hu2))
   | (go_at_call 49;((with_reducible refine (WA.out _ _ hu2).mono ?_);rintro e w3 ⟨u,rfl,hz3,gF⟩;obtain ⟨b3,A3,L3,c3,rfl⟩:=hz3.sh;have sj:=(hI0.ext hE2).ext gF;obtain ⟨i0,i1,i2,i3,i4⟩:=id sj)))
 clear sj hM WA
 go_wp2
 (try simp only [Exit.inBlock,Exit.then])
 refine bodyPost_ret (v:=.agg #[.bool b3,.slice A3 L3 c3]) (show (results _ _).run _ _=_ from ?_) rfl ⟨_,rfl,hz3.gD ((hI0.ext hE2).ext gF) (bC _ _ _) _ _,((hE0.below hE2).below gF).gD (by omega) _ _⟩
 simp only [results]
 go_simp
end Go.Proofs.YtgcieamfidoaoaaGreatDoor
/- The document's whole numbers: made, turned, ordered. -/
namespace Go.Proofs.YtgcieamfidoaoaaGreatDoor
open Go.RowKit
set_option maxRecDepth 100000 in
theorem kG (w:World) (b:Bool) (v:Value) (xs:List Nat) (hu:U w v xs) (hlen:xs.length≤1000000000) (n:Nat) (hn:val xs=n) (z:Int) (hz:sg b n=z) :
  Calls Tryz.prog 55 #[.bool b,v] w fun e w'=>∃ u,e = .returned u∧Zn w' u z∧Ext w w':=by
 have hM:=Lib.hid (fun W h=>Bd W v xs h hlen n hn)
 have hE0:=(Ext.refl w).alloc (.cells #[.bool false,.slice none 0 0] 34)
 have hI0:=Ib.new w false (.slice none 0 0) 34
 have hu0:=hu.below hE0
 have hza:z.natAbs=n:=by rw [← hz,lZ]
 have hzn:decide (z<0)=(b&&decide (0<n)):=by rw [← hz,Rp]
 obtain ⟨L,hL⟩:∃ L,(limbs n).length=L:=⟨_,rfl⟩
 have hc:=oF n
 rw [hL] at hc
 have HL:=Lib.hid hL
 have HZ:=Lib.hid (And.intro hza hzn)
 obtain ⟨A0,c0,rfl,-⟩:=id hu
 obtain ⟨l0,hl0⟩:∃ l,xs.length=l:=⟨_,rfl⟩
 rw [hl0] at hM hu0 ⊢
 clear hl0
 clear hz hn hL hza hzn
 rcases hc with ⟨h1,rfl⟩ | ⟨h1,h2⟩
 · subst h1
   cases b
   all_goals (
    go_enter Tryz.func55,Tryz.ntmps55
    go_wp2_with (go_at_call 100;refine (hM.out _ hu0).mono ?_;rintro e w2 ⟨u,rfl,hu2,hE2⟩;obtain ⟨A,c,rfl,hc⟩:=Un.sh hu2;rw [HL.out] at hu2 ⊢;clear hc;have hI2:=hI0.ext hE2;obtain ⟨i0,i1,i2,i3,i4⟩:=id hI2)
    (try simp only [Exit.inBlock,Exit.then])
    refine bodyPost_ret (v:=.agg #[.bool false,.slice A 0 c]) (show (results _ _).run _ _=_ from ?_) rfl ⟨_,rfl,Zn.mk' (Un.gD hu2 hI2 (bC _ _ _) _ _) HL.out HZ.out.1 HZ.out.2,(hE0.below hE2).gD (Nat.le_refl _) _ _⟩
    simp only [results]
    go_simp)
 · have h3:(0:Int)<(L:Int):=by omega
   have hb0:Hid (decide (0<n)=true):=decide_eq_true (by omega)
   cases b
   case' false=>have HS:Hid (decide (z<0)=false):=by show _=_;rw [HZ.out.2];rfl
   case' true=>have HS:Hid (decide (z<0)=true):=by show _=_;rw [HZ.out.2,hb0.out];rfl
   all_goals (
    go_enter Tryz.func55,Tryz.ntmps55
    go_wp2_with (go_at_call 100;refine (hM.out _ hu0).mono ?_;rintro e w2 ⟨u,rfl,hu2,hE2⟩;obtain ⟨A,c,rfl,hc⟩:=Un.sh hu2;rw [HL.out] at hu2 ⊢;clear hc;have hI2:=hI0.ext hE2;obtain ⟨i0,i1,i2,i3,i4⟩:=id hI2)
    (try simp only [Exit.inBlock,Exit.then])
    refine bodyPost_ret (v:=.agg #[.bool _,.slice A L c]) (show (results _ _).run _ _=_ from ?_) rfl ⟨_,rfl,Zn.mk' (Un.gD hu2 hI2 (bC _ _ _) _ _) HL.out HZ.out.1 HS.out,(hE0.below hE2).gD (Nat.le_refl _) _ _⟩
    simp only [results]
    go_simp)
set_option maxRecDepth 100000 in
theorem WM (w:World) (v:Value) (z:Int) (h:Zn w v z) (hlz:(limbs z.natAbs).length≤1000000) (y:Int) (hy : -z=y) :
  Calls Tryz.prog 84 #[v] w fun e w'=>∃ u,e = .returned u∧Zn w' u y∧Ext w w':=by
 obtain ⟨b,A,L,c,n,rfl,hu,hL,hz,hb,hza,hzn⟩:=h.open
 have hE0:=((Ext.refl w).alloc (.cells #[.bool b,.slice A L c] 34)).alloc (.cells #[.bool false,.slice none 0 0] 34)
 have hI0:=Ib.new2 w (.cells #[.bool b,.slice A L c] 34) false (.slice none 0 0) 34
 have uF:=(Ib.new w b (.slice A L c) 34).ext ((Ext.refl _).alloc (.cells #[.bool false,.slice none 0 0] 34))
 have hu0:=hu.below hE0
 have hM:=Lib.hid (fun W h=>kG W (!b) (.slice A L c) (limbs n) h (by rw [hza] at hlz;omega) n (aJ n) y (by rw [Y1,← hz];exact hy))
 obtain ⟨p0,p1,p2,p3,p4⟩:=id uF
 clear hlz hz hb hza hzn hL hy h
 go_enter Tryz.func84,Tryz.ntmps84
 go_wp2_with (go_at_call 55;refine (hM.out _ hu0).mono ?_;rintro e w2 ⟨u,rfl,hz2,hE2⟩;obtain ⟨b2,A2,L2,c2,rfl⟩:=hz2.sh;have hI2:=hI0.ext hE2;obtain ⟨i0,i1,i2,i3,i4⟩:=id hI2)
 (try simp only [Exit.inBlock,Exit.then])
 refine bodyPost_ret (v:=.agg #[.bool b2,.slice A2 L2 c2]) (show (results _ _).run _ _=_ from ?_) rfl ⟨_,rfl,hz2.gD hI2 (bC _ _ _) _ _,(hE0.below hE2).gD (by simp) _ _⟩
 simp only [results]
 go_simp
set_option maxRecDepth 100000 in
theorem WY (w:World) (k:Int) (h0:0≤k) (h1:k<18446744073709551616) (n:Nat) (hn:k.toNat=n) :
  Calls Tryz.prog 107 #[.int .u64 k] w fun e w'=>∃ u,e = .returned u∧Un w' u n∧Ext w w':=by
 obtain ⟨m,rfl⟩:=Int.eq_ofNat_of_zero_le h0
 rw [Int.toNat_natCast] at hn
 subst hn
 obtain ⟨r,hr⟩:∃ r,m%4294967296=r:=⟨_,rfl⟩
 obtain ⟨q,hq⟩:∃ q,m/4294967296=q:=⟨_,rfl⟩
 have hrb:r<4294967296:=by omega
 have ND:q<4294967296:=by omega
 have hv:val [r,q]=m:=by simp only [val];omega
 have hu:=Lib.hid (fun W=>Hu W [r,q] (by simp;omega) (by simp))
 have o1:(m:Int).tmod 4294967296=(r:Int):=by rw [Int.tmod_eq_emod_of_nonneg (Int.natCast_nonneg _)];omega
 have o2:(m:Int)%4294967296=(r:Int):=by omega
 have o3:(m:Int).tdiv 4294967296=(q:Int):=by rw [Int.tdiv_eq_ediv_of_nonneg (Int.natCast_nonneg _)];omega
 have o4:(m:Int)/4294967296=(q:Int):=by omega
 have o5:(r:Int)%4294967296=(r:Int):=by omega
 have o6:(q:Int)%4294967296=(q:Int):=by omega
 have o7:IntKind.u32.wrap (r:Int)=(r:Int):=by rw [IntKind.wrap_u32];omega
 have o8:IntKind.u32.wrap (q:Int)=(q:Int):=by rw [IntKind.wrap_u32];omega
 have o9:IntKind.u64.wrap (q:Int)=(q:Int):=by rw [IntKind.wrap_u64];omega
 have hM:=Lib.hid (fun W v h=>Bd W v [r,q] h (by simp) m hv)
 clear hr hq hv h0
 go_enter Tryz.func107,Tryz.ntmps107
 go_wp2_with (go_at_call 100;refine (hM.out _ _ (hu.out w)).mono ?_;rintro e w2 ⟨u,rfl,hu2,hE2⟩;obtain ⟨A2,c2,rfl,-⟩:=Un.sh hu2)
 go_ret
 exact ⟨_,rfl,hu2,((Ext.refl w).alloc _).below hE2⟩
set_option maxRecDepth 100000 in
theorem abe (w:World) (z:Int) (h1 : -9223372036854775808≤z) (h2:z≤9223372036854775807) :
  Calls Tryz.prog 60 #[.int .i64 z] w fun e w'=>∃ u,e = .returned u∧Zn w' u z∧Ext w w':=by
 have hE0:=(Ext.refl w).alloc (.cells #[.bool false,.slice none 0 0] 34)
 have hI0:=Ib.new w false (.slice none 0 0) 34
 by_cases h0:z<0
 · obtain ⟨m,hm⟩:∃ m:Nat,-z=(m:Int):=⟨(-z).toNat,by omega⟩
   obtain ⟨k,hk⟩:∃ k:Nat,z+18446744073709551616=(k:Int):=⟨(z+18446744073709551616).toNat,by omega⟩
   have o1:z%18446744073709551616=(k:Int):=by omega
   have o2:IntKind.u64.wrap z=(k:Int):=by rw [IntKind.wrap_u64];omega
   have o3:(-(k:Int))%18446744073709551616=(m:Int):=by omega
   have o4:IntKind.u64.wrap (-(k:Int))=(m:Int):=by rw [IntKind.wrap_u64];omega
   have hM:=Lib.hid (fun W v h=>kG W true v (limbs m) h (by have:=kN (k:=2) (show m<LB^2 by unfold LB;omega);omega) m (aJ m) z (by rw [Mr];omega))
   have hOf:=Lib.hid (fun W=>WY W (m:Int) (by omega) (by omega) m (by simp))
   clear hm hk
   go_enter Tryz.func60,Tryz.ntmps60
   go_wp2_with (first
    | (go_at_call 107;refine (hOf.out _).mono ?_;rintro e w2 ⟨u,rfl,hu2,hE2⟩;obtain ⟨A2,c2,rfl,hc2⟩:=Un.sh hu2)
    | (go_at_call 55;refine (hM.out _ _ hu2).mono ?_;rintro e w3 ⟨u,rfl,hz3,gF⟩;obtain ⟨b3,A3,L3,c3,rfl⟩:=hz3.sh;have sj:=(hI0.ext hE2).ext gF;obtain ⟨i0,i1,i2,i3,i4⟩:=id sj))
   (try simp only [Exit.inBlock,Exit.then])
   refine bodyPost_ret (v:=.agg #[.bool b3,.slice A3 L3 c3]) (show (results _ _).run _ _=_ from ?_) rfl ⟨_,rfl,hz3.gD sj (bC _ _ _) _ _,((hE0.below hE2).below gF).gD (by simp) _ _⟩
   simp only [results]
   go_simp
 · obtain ⟨m,rfl⟩:=Int.eq_ofNat_of_zero_le (show 0≤z by omega)
   have o1:(m:Int)%18446744073709551616=(m:Int):=by omega
   have o2:IntKind.u64.wrap (m:Int)=(m:Int):=by rw [IntKind.wrap_u64];omega
   have hM:=Lib.hid (fun W v h=>kG W false v (limbs m) h (by have:=kN (k:=2) (show m<LB^2 by unfold LB;omega);omega) m (aJ m) (m:Int) rfl)
   have hOf:=Lib.hid (fun W=>WY W (m:Int) (by omega) (by omega) m (by simp))
   go_enter Tryz.func60,Tryz.ntmps60
   go_wp2_with (first
    | (go_at_call 107;refine (hOf.out _).mono ?_;rintro e w2 ⟨u,rfl,hu2,hE2⟩;obtain ⟨A2,c2,rfl,hc2⟩:=Un.sh hu2)
    | (go_at_call 55;refine (hM.out _ _ hu2).mono ?_;rintro e w3 ⟨u,rfl,hz3,gF⟩;obtain ⟨b3,A3,L3,c3,rfl⟩:=hz3.sh;have sj:=(hI0.ext hE2).ext gF;obtain ⟨i0,i1,i2,i3,i4⟩:=id sj))
   (try simp only [Exit.inBlock,Exit.then])
   refine bodyPost_ret (v:=.agg #[.bool b3,.slice A3 L3 c3]) (show (results _ _).run _ _=_ from ?_) rfl ⟨_,rfl,hz3.gD sj (bC _ _ _) _ _,((hE0.below hE2).below gF).gD (by simp) _ _⟩
   simp only [results]
   go_simp
set_option maxRecDepth 100000 in
theorem Q7 (w:World) (va vb:Value) (a b:Int) (ha:Zn w va a) (hb:Zn w vb b) (hl:(limbs a.natAbs).length≤1000000) (hl2:(limbs b.natAbs).length≤1000000) (k:Int) (hk:bN a b=k) :
  Calls Tryz.prog 78 #[va,vb] w fun e w'=>e = .returned (.int .i64 k)∧Ext w w':=by
 obtain ⟨p,A,L,c,n,rfl,hu,hL,hz,-,hza,hzn⟩:=ha.open
 obtain ⟨q,B,K,d,m,rfl,hv,hK,hz2,-,mF,pJ⟩:=hb.open
 rw [hza] at hl
 rw [mF] at hl2
 have hE0:=((Ext.refl w).alloc (.cells #[.bool p,.slice A L c] 34)).alloc (.cells #[.bool q,.slice B K d] 34)
 have hu0:=hu.below hE0
 have hv0:=hv.below hE0
 have IZ:decide (a<0)=p:=hzn
 have I4:decide (b<0)=q:=pJ
 cases p<;>cases q
 case' false.false =>
  have hC:=Lib.hid (jk _ (.slice A L c) (.slice B K d) n m hu0 hv0 (by omega) (by omega) k (by
   have h1:=of_decide_eq_false IZ
   have h2:=of_decide_eq_false I4
   rw [← hk,show a=(n:Int) by omega,show b=(m:Int) by omega]))
 case' true.true =>
  have hC:=Lib.hid (jk _ (.slice B K d) (.slice A L c) m n hv0 hu0 (by omega) (by omega) k (by
   have h1:=of_decide_eq_true IZ
   have h2:=of_decide_eq_true I4
   rw [← hk,show a = -(n:Int) by omega,show b = -(m:Int) by omega]
   unfold bN;(repeat' split)<;>omega))
 case' true.false =>
  have hkk:k = -1:=by
   have h1:=of_decide_eq_true IZ
   have h2:=of_decide_eq_false I4
   rw [← hk];exact if_pos (by omega)
  subst hkk
 case' false.true =>
  have hkk:k=1:=by
   have h1:=of_decide_eq_false IZ
   have h2:=of_decide_eq_true I4
   rw [← hk];unfold bN;rw [if_neg (by omega),if_pos (by omega)]
  subst hkk
 all_goals (
  clear hl hl2 hza hzn mF pJ hz hz2 hL hK ha hb hu hv hk IZ I4 hu0 hv0
  go_enter Tryz.func78,Tryz.ntmps78
  go_wp2_with (go_at_call 47;refine hC.out.mono ?_;rintro e w2 ⟨rfl,hE2⟩)
  go_ret
  exact ⟨rfl,by first | exact hE0.below hE2 | exact hE0⟩)
theorem I5 (a b:Int):bN a b=0↔a=b:=by unfold bN;(repeat' split)<;>omega
set_option maxRecDepth 100000 in
theorem Rz (w:World) (va vb:Value) (a b:Int) (ha:Zn w va a) (hb:Zn w vb b) (hl:(limbs a.natAbs).length≤1000000) (hl2:(limbs b.natAbs).length≤1000000) (r:Bool) (hr:decide (a=b)=r) :
  Calls Tryz.prog 56 #[va,vb] w fun e w'=>e = .returned (.bool r)∧Ext w w':=by
 have ha':=ha
 have hb':=hb
 obtain ⟨p,A,L,c,n,rfl,-,-,-,-,-,hzn⟩:=ha.open
 obtain ⟨q,B,K,d,m,rfl,-,-,-,-,-,pJ⟩:=hb.open
 have hE0:=((Ext.refl w).alloc (.cells #[.bool p,.slice A L c] 34)).alloc (.cells #[.bool q,.slice B K d] 34)
 have uF:=(Ib.new w p (.slice A L c) 34).ext ((Ext.refl _).alloc (.cells #[.bool q,.slice B K d] 34))
 have uO:=Ib.new2 w (.cells #[.bool p,.slice A L c] 34) q (.slice B K d) 34
 obtain ⟨k,hk⟩:∃ k,bN a b=k:=⟨_,rfl⟩
 have hC:=Lib.hid (Q7 _ _ _ a b (ha'.below hE0) (hb'.below hE0) hl hl2 k hk)
 by_cases hab:a=b
 · rw [decide_eq_true hab] at hr
   subst hr
   have hk0:k=0:=by rw [← hk];exact (I5 a b).2 hab
   have hpq:p=q:=by rw [← hzn,← pJ,hab]
   subst hk0
   subst hpq
   clear hk hab hzn pJ hl hl2 ha hb ha' hb'
   cases p
   all_goals (
    go_enter Tryz.func56,Tryz.ntmps56
    go_wp2_with (go_at_call 78;refine hC.out.mono ?_;rintro e w2 ⟨rfl,hE2⟩;obtain ⟨p0,p1,p2,p3,p4⟩:=uF.ext hE2;obtain ⟨q0,q1,q2,q3,q4⟩:=uO.ext hE2)
    go_ret
    exact ⟨by first | rfl | simp,hE0.below hE2⟩)
 · rw [decide_eq_false hab] at hr
   subst hr
   have hk0:(k==0)=false:=by
    rw [beq_eq_false_iff_ne]
    intro h
    exact hab ((I5 a b).1 (hk.trans h))
   clear hk hab hzn pJ hl hl2 ha hb ha' hb'
   go_enter Tryz.func56,Tryz.ntmps56
   go_wp2_with (go_at_call 78;refine hC.out.mono ?_;rintro e w2 ⟨rfl,hE2⟩;obtain ⟨p0,p1,p2,p3,p4⟩:=uF.ext hE2;obtain ⟨q0,q1,q2,q3,q4⟩:=uO.ext hE2)
   go_ret
   exact ⟨by first | rfl | simp,hE0.below hE2⟩
end Go.Proofs.YtgcieamfidoaoaaGreatDoor
/- The document's sums, differences, products. -/
namespace Go.Proofs.YtgcieamfidoaoaaGreatDoor
open Go.RowKit
theorem wG (n m:Nat):(limbs (n*m)).length≤(limbs n).length+(limbs m).length:=by
 refine kN ?_
 rw [Nat.pow_add]
 exact Nat.mul_lt_mul'' (dU (Nat.le_refl _)) (dU (Nat.le_refl _))
end Go.Proofs.YtgcieamfidoaoaaGreatDoor
/- The document's quotients. -/
namespace Go.Proofs.YtgcieamfidoaoaaGreatDoor
open Go.RowKit
set_option maxRecDepth 100000 in
theorem Vj (w:World) (va vb:Value) (a b:Int) (ha:Zn w va a) (hb:Zn w vb b) (hl:(limbs a.natAbs).length≤200) (hl2:(limbs b.natAbs).length≤200) (h0:b≠0) (x y:Int) (hx:a/b=x) (hy:a%b=y) :
  Calls Tryz.prog 141 #[va,vb] w fun e w'=>ZdD w w' e x y:=by
 unfold ZdD
 obtain ⟨p,A,L,c,n,rfl,hu,hL,hz,-,hza,hzn⟩:=ha.open
 obtain ⟨q,B,K,d,m,rfl,hv,hK,hz2,-,mF,pJ⟩:=hb.open
 rw [hza] at hl
 rw [mF] at hl2
 have hm0:m≠0:=by omega
 obtain ⟨Q,hQ⟩:∃ Q,n/m=Q:=⟨_,rfl⟩
 obtain ⟨R,hR⟩:∃ R,n%m=R:=⟨_,rfl⟩
 have hQl:(limbs Q).length≤200:=Nat.le_trans (jr (by rw [← hQ];exact Nat.div_le_self _ _)) hl
 have hRm:R<m:=by rw [← hR];exact Nat.mod_lt _ (by omega)
 have hRl:(limbs R).length≤200:=Nat.le_trans (jr (by omega)) hl2
 have hE0:=((((Ext.refl w).alloc (.cells #[.bool p,.slice A L c] 34)).alloc (.cells #[.bool q,.slice B K d] 34)).alloc (.cells #[.bool false,.slice none 0 0] 34)).alloc (.cells #[.bool false,.slice none 0 0] 34)
 have hI0:=(Ib.DR w (.cells #[.bool p,.slice A L c] 34) (.cells #[.bool q,.slice B K d] 34) false (.slice none 0 0) 34).ext ((Ext.refl _).alloc (.cells #[.bool false,.slice none 0 0] 34))
 have hJ0:=Ib.DR (w.alloc (.cells #[.bool p,.slice A L c] 34)) (.cells #[.bool q,.slice B K d] 34) (.cells #[.bool false,.slice none 0 0] 34) false (.slice none 0 0) 34
 have hN:(w.alloc (.cells #[.bool p,.slice A L c] 34)).heap.size=w.heap.size+1:=by simp
 rw [hN] at hJ0
 have uF:=(Ib.new w p (.slice A L c) 34).ext ((((Ext.refl _).alloc (.cells #[.bool q,.slice B K d] 34)).alloc (.cells #[.bool false,.slice none 0 0] 34)).alloc (.cells #[.bool false,.slice none 0 0] 34))
 have uO:=(Ib.new2 w (.cells #[.bool p,.slice A L c] 34) q (.slice B K d) 34).ext (((Ext.refl _).alloc (.cells #[.bool false,.slice none 0 0] 34)).alloc (.cells #[.bool false,.slice none 0 0] 34))
 have hD:=Lib.hid (sI _ (.slice A L c) (.slice B K d) n m Q R (hu.below hE0) (hv.below hE0) hl hl2 hm0 hQ hR)
 have hv0:=hv.below hE0
 have hcs:=oF R
 obtain ⟨LR,Vf⟩:∃ L,(limbs R).length=L:=⟨_,rfl⟩
 have HLR:=Lib.hid Vf
 rw [Vf] at hcs
 by_cases hsp:p=true∧R≠0
 · obtain ⟨rfl,hR0⟩:=hsp
   obtain ⟨k1,k2⟩:=CE q n m hm0 (by rw [hR];exact hR0)
   rw [hQ,← hz,← hz2,hx] at k1
   rw [hR,← hz,← hz2,hy] at k2
   rw [show (!(true==q)) = !q by cases q<;>rfl] at k1
   have Pv:(limbs (Q+1)).length≤1000000000:=by
    have:=jr (show Q+1≤Q+Q+1 by omega)
    have h5:=wG (Q+1) 1
    have h6:(limbs (Q+1)).length≤(limbs Q).length+1:=by
     refine kN ?_
     have h7:Q<LB^(limbs Q).length:=dU (Nat.le_refl _)
     rw [Nat.pow_succ]
     have h8:LB^(limbs Q).length*2≤LB^(limbs Q).length*LB:=Nat.mul_le_mul_left _ (by unfold LB;decide)
     omega
    omega
   have hmR:(limbs (m-R)).length≤1000000000:=by have:=jr (show m-R≤m by omega);omega
   have hAd:=Lib.hid (fun W v u h g=>Y7 W v u Q 1 h g (by omega) (by have:=Hw;have h5:=kN (k:=1) (show 1<LB^1 by unfold LB;decide);omega) (Q+1) rfl)
   have hSb:=Lib.hid (fun W v h g=>QR W (.slice B K d) v m R h g (by omega) (by omega) true (decide_eq_true (by omega)) (m-R) rfl)
   have hM1:=Lib.hid (fun W v (h:Un W v (Q+1))=>kG W (!q) v (limbs (Q+1)) h Pv (Q+1) (aJ _) x k1)
   have hM2:=Lib.hid (fun W v (h:Un W v (m-R))=>kG W false v (limbs (m-R)) h hmR (m-R) (aJ _) y k2)
   have hlr:¬ (LR=0):=by omega
   have aeY:((LR:Int)==0)=false:=by rw [beq_eq_false_iff_ne];omega
   clear hl hl2 hza hzn mF pJ hz hz2 hL hK ha hb hu hv hN hx hy hQ hR h0 hm0 hcs Vf k1 k2 hRm hR0 Pv hmR hQl hRl
   unfold Dv at hD
   go_enter Tryz.func141,Tryz.ntmps141
   go_upto_region 7 with (first
    | (go_at_call 91;refine hD.out.mono ?_;rintro e w2 ⟨⟨vq,vr,rfl,vO,Eb⟩,hE2⟩;obtain ⟨A2,c2,rfl,-⟩:=Un.sh vO;obtain ⟨A3,c3,rfl,-⟩:=Un.sh Eb;rw [HLR.out] at Eb ⊢;obtain ⟨p0,p1,p2,p3,p4⟩:=uF.ext hE2;obtain ⟨q0,q1,q2,q3,q4⟩:=uO.ext hE2;have hv2:=Un.below hv0 hE2)
    | (go_at_call 85;refine (hSb.out _ _ hv2 Eb).mono ?_;rintro e w3 ⟨u3,rfl,hu3,gF⟩;obtain ⟨A5,c5,rfl,-⟩:=Un.sh hu3))
   have ace:=(((hE0.below hE2).below gF).drew)
   have sj:=((hI0.ext hE2).ext gF).ext (Ext.refl _).drew
   have hJ3:=((hJ0.ext hE2).ext gF).ext (Ext.refl _).drew
   have hP3:=((uF.ext hE2).ext gF).ext (Ext.refl _).drew
   have hQ3:=((uO.ext hE2).ext gF).ext (Ext.refl _).drew
   have hS0:(w.heap.size+1+1+1<w3.drew.heap.size∧w3.drew.cell? ⟨w.heap.size,0,none⟩=some (.bool true)∧w3.drew.cell? ⟨w.heap.size,1,none⟩=some (.slice A L c)∧w3.drew.cell? ⟨w.heap.size+1,0,none⟩=some (.bool q)∧w3.drew.cell? ⟨w.heap.size+1,1,none⟩=some (.slice B K d))∧Ext w w3.drew:=⟨⟨hJ3.1,hP3.2.1,hP3.2.2.1,hQ3.2.1,hQ3.2.2.1⟩,ace⟩
   have ae3:=((Un.below vO gF).below (Ext.refl _).drew)
   have ae4:=Un.below hu3 (Ext.refl _).drew
   clear hP3 hQ3 uF uO p0 p1 p2 p3 p4 q0 q1 q2 q3 q4
   go_region_held3 (fun X=>(w.heap.size+1+1+1<X.heap.size∧X.cell? ⟨w.heap.size,0,none⟩=some (.bool true)∧X.cell? ⟨w.heap.size,1,none⟩=some (.slice A L c)∧X.cell? ⟨w.heap.size+1,0,none⟩=some (.bool q)∧X.cell? ⟨w.heap.size+1,1,none⟩=some (.slice B K d))∧Ext w X)
    (first
     | assumption
     | with_reducible exact hS0
     | with_reducible exact Vb (by assumption)
     | with_reducible exact Vd (by assumption)
     | exact Mt (by assumption) (by assumption)
     | exact Mt (by assumption) ((Ext.refl _).alloc _))
    (first
     | (go_at_call 77;(refine (hAd.out _ _ _ (Un.below ae3 ((Ext.refl _).alloc _)) (uH _)).mono ?_);rintro e w4 ⟨u4,rfl,DU,kM⟩;have zu:=((Ext.refl w3.drew).alloc (.cells #[.int .u32 1] 57)).below kM;obtain ⟨A4,c4,rfl,-⟩:=Un.sh DU)
     | (go_at_call 55;((with_reducible refine (hM1.out _ _ DU).mono ?_);rintro e w6 ⟨u6,rfl,Rv,mG⟩;obtain ⟨b6,A6,L6,c6,rfl⟩:=Rv.sh))
     | (go_at_call 55;(have yQ:=Un.below ae4 zu;have hY7:=Un.below yQ mG;(with_reducible refine (hM2.out _ _ hY7).mono ?_);rintro e w7 ⟨u7,rfl,OA,pg⟩;obtain ⟨b7,A7,L7,c7,rfl⟩:=OA.sh;have KC:=((sj.ext zu).ext mG).ext pg;have KD:=((hJ3.ext zu).ext mG).ext pg;obtain ⟨i0,i1,i2,i3,i4⟩:=id KC;obtain ⟨j0,j1,j2,j3,j4⟩:=id KD;have Y3:=((ace.below zu).below mG).below pg)))
   have Y2:=Rv.below pg
   have Rw:=Lib.hid KC
   have Rx:=Lib.hid KD
   clear KC KD
   go_wp2
   (try simp only [Exit.inBlock,Exit.then])
   refine bodyPost_ret (v:=.tuple #[.agg #[.bool b6,.slice A6 L6 c6],.agg #[.bool b7,.slice A7 L7 c7],.int .i64 0]) (show (results _ _).run _ _=_ from ?_) rfl ⟨⟨_,_,rfl,(Y2.gD Rw.out (bC _ _ _) _ _).gD (Rx.out.other (by omega) _ _) (bC _ _ _) _ _,(OA.gD Rw.out (bC _ _ _) _ _).gD (Rx.out.other (by omega) _ _) (bC _ _ _) _ _⟩,(Y3.gD (by omega) _ _).gD (by omega) _ _⟩
   simp only [results]
   go_simp
 · have hpr:p=false∨R=0:=by
    cases p
    · exact .inl rfl
    · right
      rcases Nat.eq_zero_or_pos R with h | h
      · exact h
      · exact absurd ⟨rfl,by omega⟩ hsp
   obtain ⟨k1,k2⟩:=zq p q n m hm0 (by rw [hR];exact hpr)
   rw [hQ,← hz,← hz2,hx] at k1
   rw [hR,← hz,← hz2,hy] at k2
   have hM1:=Lib.hid (fun W v (h:Un W v Q)=>kG W (!(p==q)) v (limbs Q) h (by omega) Q (aJ _) x k1)
   have hM2:=Lib.hid (fun W v (h:Un W v R)=>kG W false v (limbs R) h (by omega) R (aJ _) y k2)
   have hcase:p=false∨(p=true∧LR=0):=by
    rcases hpr with h | h
    · exact .inl h
    · cases p
      · exact .inl rfl
      · exact .inr ⟨rfl,by omega⟩
   clear hl hl2 hza hzn mF pJ hz hz2 hL hK ha hb hu hv hN hx hy hQ hR h0 hm0 hcs Vf k1 k2 hRm hsp hpr
   unfold Dv at hD
   rcases hcase with rfl | ⟨rfl,rfl⟩
   case' inl=>rw [show (!(false==q))=q by cases q<;>rfl] at hM1
   case' inr=>rw [show (!(true==q)) = !q by cases q<;>rfl] at hM1
   all_goals (
    go_enter Tryz.func141,Tryz.ntmps141
    go_upto_region 5 with (first
     | (go_at_call 91;refine hD.out.mono ?_;rintro e w5 ⟨⟨vq,vr,rfl,vO,Eb⟩,nC⟩;obtain ⟨A2,c2,rfl,-⟩:=Un.sh vO;obtain ⟨A3,c3,rfl,-⟩:=Un.sh Eb;rw [HLR.out] at Eb ⊢;obtain ⟨p0,p1,p2,p3,p4⟩:=uF.ext nC;obtain ⟨q0,q1,q2,q3,q4⟩:=uO.ext nC))
    go_wp2_with (fail)
    refine (hM1.out _ _ vO).mono ?_
    rintro e w6 ⟨u6,rfl,Rv,mG⟩
    obtain ⟨b6,A6,L6,c6,rfl⟩:=Rv.sh
    go_wp2_with (fail)
    refine (hM2.out _ _ (Un.below Eb mG)).mono ?_
    rintro e w7 ⟨u7,rfl,OA,pg⟩
    obtain ⟨b7,A7,L7,c7,rfl⟩:=OA.sh
    have KC:=((hI0.ext nC).ext mG).ext pg
    have KD:=((hJ0.ext nC).ext mG).ext pg
    obtain ⟨i0,i1,i2,i3,i4⟩:=id KC
    obtain ⟨j0,j1,j2,j3,j4⟩:=id KD
    have Rw:=Lib.hid KC
    have Rx:=Lib.hid KD
    have Y2:=Rv.below pg
    have Y3:=((hE0.below nC).below mG).below pg
    clear KC KD
    go_wp2
    (try simp only [Exit.inBlock,Exit.then])
    refine bodyPost_ret (v:=.tuple #[.agg #[.bool b6,.slice A6 L6 c6],.agg #[.bool b7,.slice A7 L7 c7],.int .i64 0]) (show (results _ _).run _ _=_ from ?_) rfl ⟨⟨_,_,rfl,(Y2.gD Rw.out (bC _ _ _) _ _).gD (Rx.out.other (by omega) _ _) (bC _ _ _) _ _,(OA.gD Rw.out (bC _ _ _) _ _).gD (Rx.out.other (by omega) _ _) (bC _ _ _) _ _⟩,(Y3.gD (by omega) _ _).gD (by omega) _ _⟩
    simp only [results]
    go_simp)
end Go.Proofs.YtgcieamfidoaoaaGreatDoor
/- The document's powers, exact quotients. -/
namespace Go.Proofs.YtgcieamfidoaoaaGreatDoor
open Go.RowKit
set_option maxRecDepth 100000 in
theorem pW (w:World) (va vb:Value) (a b:Int) (ha:Zn w va a) (hb:Zn w vb b) (hl:(limbs a.natAbs).length≤200) (hl2:(limbs b.natAbs).length≤200) (h0:b≠0) (hr:a%b=0) (x:Int) (hx:a/b=x) :
  Calls Tryz.prog 106 #[va,vb] w fun e w'=>∃ u,e = .returned (.tuple #[u,.bool true])∧Zn w' u x∧Ext w w':=by
 have ha':=ha
 have hb':=hb
 obtain ⟨p,A,L,c,rfl⟩:=ha.sh
 obtain ⟨q,B,K,d,rfl⟩:=hb.sh
 have hE0:=(((Ext.refl w).alloc (.cells #[.bool p,.slice A L c] 34)).alloc (.cells #[.bool q,.slice B K d] 34)).alloc (.cells #[.bool false,.slice none 0 0] 34)
 have hI0:=Ib.DR w (.cells #[.bool p,.slice A L c] 34) (.cells #[.bool q,.slice B K d] 34) false (.slice none 0 0) 34
 have hD:=Lib.hid (Vj _ _ _ a b (ha'.below hE0) (hb'.below hE0) hl hl2 h0 x 0 hx hr)
 clear h0 ha hb ha' hb' hl hl2 hr hx
 unfold ZdD at hD
 go_enter Tryz.func106,Tryz.ntmps106
 go_wp2_with (go_at_call 141;refine hD.out.mono ?_;rintro e w2 ⟨⟨x',y,rfl,hx,hy⟩,hE2⟩;obtain ⟨b1,A1,L1,c1,rfl⟩:=hx.sh;obtain ⟨b2,A2,L2,c2,n2,hv2,hu2,hL2,hz2,-,mF,-⟩:=hy.open;subst hv2;obtain rfl:L2=0:=(by { have:=oF n2;omega });clear hL2 hz2 mF;have gF:=((Ext.refl w2).alloc (.cells #[.bool b1,.slice A1 L1 c1] 34)).alloc (.cells #[.bool b2,.slice A2 0 c2] 34);have sj:=(hI0.ext hE2).ext gF;obtain ⟨i0,i1,i2,i3,i4⟩:=id sj;have hJ3:=(Ib.new w2 b1 (.slice A1 L1 c1) 34).ext ((Ext.refl _).alloc (.cells #[.bool b2,.slice A2 0 c2] 34));obtain ⟨j0,j1,j2,j3,j4⟩:=id hJ3;have hs:=(hE0.below hE2).size)
 (try simp only [Exit.inBlock,Exit.then])
 refine bodyPost_ret (v:=.tuple #[.agg #[.bool b1,.slice A1 L1 c1],.bool true]) (show (results _ _).run _ _=_ from ?_) rfl ⟨_,rfl,(hx.below gF).gD sj (bC _ _ _) _ _,((hE0.below hE2).below gF).gD (by omega) _ _⟩
 simp only [results]
 go_simp
end Go.Proofs.YtgcieamfidoaoaaGreatDoor
/- Small numbers reckoned, powers and shifts, in the walk by plans. -/
namespace Go.Proofs.YtgcieamfidoaoaaGreatDoor
open Go.RowKit
def shl (a s:Int):Int:=if 0≤s then a*2^s.toNat else a/2^(-s).toNat
end Go.Proofs.YtgcieamfidoaoaaGreatDoor
/- Signs, orders, shifts; what is made of a whole number and a power of 2. -/
namespace Go.Proofs.YtgcieamfidoaoaaGreatDoor
open Go.RowKit
set_option maxRecDepth 100000
theorem Dn.zero (w:World) (L:Nat) {lo hi:Int} (h1:lo≤0) (h2:0≤hi):Dn w (.agg #[.bool false,.slice none 0 0,.int .i64 0]) 0 L lo hi:=by
 refine ⟨0,0,none,0,?_,?_,.inl ⟨rfl,rfl⟩,Dy.VD 0,Sz.zero,h1,h2⟩
 · show _=Value.agg #[.bool false,.slice none (limbs 0).length 0,.int .i64 0]
   rw [aX];rfl
 · show Un w (.slice none (limbs 0).length 0) 0
   rw [aX];exact Un.aeW _ _ _
end Go.Proofs.YtgcieamfidoaoaaGreatDoor
/- More steps: lengths, conversions, signs; loops of few rounds; cuts; what is known of the types. -/
namespace Go.Proofs.YtgcieamfidoaoaaGreatDoor.Rf
open Go Go.RowKit Go.Proofs.YtgcieamfidoaoaaGreatDoor.Pl
set_option maxRecDepth 100000
section
variable {P:Program} {Q:Exit→Act→World→Prop} {n:Nat} {ds:List Deferred} {cs:List Code} {l:List (Nat × Value)} {w:World}
def OG (P:Program) (Q:Exit→Act→World→Prop) (n:Nat) (ds:List Deferred) (cs:List Code) (c:Code):Nat→List (Nat × Value)→World→Prop
 | 0,l,w=>Pl.V P (Exit.then (fun _ _=>False) (Ks P Q cs)) n ds [c] l w
 | k+1,l,w=>Pl.V P (Exit.then (fun a' w'=>∃ l',Ag n ds a' l'∧OG P Q n ds cs c k l' w') (Ks P Q cs)) n ds [c] l w
theorem SX {c:Code} (k:Nat) (h:OG P Q n ds cs c k l w):Pl.V P Q n ds (.loop c::cs) l w:=by
 refine tN (fun k l w=>OG P Q n ds cs c k l w) k h fun k l w hU=>?_
 cases k with
 | zero =>
  intro a ha
  refine Code.wp_mono (fun e a w hq=>?_) (hU a ha)
  cases e with
  | normal=>exact hq.elim
  | _=>exact hq
 | succ k =>
  intro a ha
  refine Code.wp_mono (fun e a w hq=>?_) (hU a ha)
  cases e with
  | normal=>obtain ⟨l',ha',h'⟩:=hq;exact ⟨k,l',Nat.lt_succ_self k,ha',h'⟩
  | _=>exact hq
theorem ZH {c:Code} {k:Nat} (h:Pl.V P (Exit.then (fun a' w'=>∃ l',Ag n ds a' l'∧OG P Q n ds cs c k l' w') (Ks P Q cs)) n ds [c] l w):OG P Q n ds cs c (k+1) l w:=h
theorem SY {c:Code} (h:Pl.V P (Exit.then (fun _ _=>False) (Ks P Q cs)) n ds [c] l w):OG P Q n ds cs c 0 l w:=h
theorem ZI {c:Code} {k:Nat} {Q':Exit→Act→World→Prop} (h:OG P Q n ds cs c k l w):Pl.V P (Exit.then (fun a' w'=>∃ l',Ag n ds a' l'∧OG P Q n ds cs c k l' w') Q') n ds [] l w:=fun a ha=>⟨l,ha,h⟩
end
section
variable {P:Program} {Q:Exit→Act→World→Prop} {n:Nat} {ds:List Deferred} {w0:World} {cs:List Code} {l:Fr} {B:Bx} {Γ:Gm} {L:List Oper}
theorem dD {r:nu} {i m d:Nat} {o:Oper} {x:Operand} {t e:TypeId} {g k:Nat} {S:RS} (N:Nat) (hu:P.underlying t=some (.slice e)) (ho:nth L i=some o) (hop:o.op = .call { callee:=.builtin .len,args:=#[x],argTypes:=#[t] }) (hd:o.dst=some d) (hg:jT L l o.guard=some true) (hx:ev l x=some (.c g k)) (hG:lW Γ g=some S.S)
  (hv:∀ w f,S.R w f→∃ A c,f k = .slice A N c) (h:HA P Q n ds w0 cs L r ((d,.v (.int .i64 ((N:Nat):Int)))::l) B Γ):HA P Q n ds w0 cs L ((false,i,m)::r) l B Γ:=fun α γ w hH=>by
 obtain ⟨A,c,e⟩:=hv w _ (hH.r g hG)
 exact P7 (A:=A) (c:=c) hu trivial ho hop hd (gy hg α γ) (by rw [bT hx];exact congrArg some e) (h α γ w hH)
theorem acT {r:nu} {i m d:Nat} {o:Oper} {x:Operand} {u:UnOp} {t:TypeId} {a:Value} (v:Value) (ho:nth L i=some o) (hop:o.op = .unOp u t x) (hd:o.dst=some d) (hg:jT L l o.guard=some true) (hx:ev l x=some (.v a)) (hr:∀ X,(Op.unary u a).run P X = .ok v X)
  (h:HA P Q n ds w0 cs L r ((d,.v v)::l) B Γ):HA P Q n ds w0 cs L ((false,i,m)::r) l B Γ:=sJ (.v v) ho hd hg (fun α γ w _ ρ hρ=>by
 unfold execOp
 rw [hop]
 refine dI _ w ?_
 rw [hρ.dK (bT hx)]
 exact hr w) h
def HU (P:Program) (Q:Exit→Act→World→Prop) (n:Nat) (ds:List Deferred) (w0:World) (cs:List Code) (c:Code) (k:Nat) (l:Fr) (B:Bx) (Γ:Gm):Prop:=∀ α γ w,Holds w0 B Γ α γ w→OG P Q n ds cs c k (gI α γ l) w
theorem mP {c:Code} (k:Nat) (h:HU P Q n ds w0 cs c k l B Γ):HV P Q n ds w0 (.loop c::cs) l B Γ:=fun α γ w hH=>SX k (h α γ w hH)
theorem iX {c:Code} {k:Nat} (h:HV P (Exit.then (fun a' w'=>∃ l',Ag n ds a' l'∧OG P Q n ds cs c k l' w') (Ks P Q cs)) n ds w0 [c] l B Γ):HU P Q n ds w0 cs c (k+1) l B Γ:=fun α γ w hH=>ZH (h α γ w hH)
theorem ru {c:Code} (h:HV P (Exit.then (fun _ _=>False) (Ks P Q cs)) n ds w0 [c] l B Γ):HU P Q n ds w0 cs c 0 l B Γ:=fun α γ w hH=>SY (h α γ w hH)
theorem eT {c:Code} {k:Nat} {Q':Exit→Act→World→Prop} (h:HU P Q n ds w0 cs c k l B Γ):HV P (Exit.then (fun a' w'=>∃ l',Ag n ds a' l'∧OG P Q n ds cs c k l' w') Q') n ds w0 [] l B Γ:=fun α γ w hH=>ZI (h α γ w hH)
def VR (l:Fr):Fr→Prop
 | []=>True
 | (t,s)::l'=>lk l t=some s∧VR l l'
def VS (B:Bx):Bx→Prop
 | []=>True
 | (b,u,c)::B'=>jU B b=some (u,c)∧VS B B'
def VT (Γ:Gm):Gm→Prop
 | []=>True
 | (g,S)::Γ'=>lW Γ g=some S∧VT Γ Γ'
theorem M7 {l:Fr}:∀ {l':Fr},VR l l'→vo l' l
 | [],_,_,_,h=>by cases h
 | (t,s)::l',hs,q,u,h=>by
  unfold lk at h
  cases hb:Nat.beq t q with
  | true =>
   rw [hb] at h
   obtain rfl:=Nat.eq_of_beq_eq_true hb
   obtain rfl:=Option.some.inj h
   exact hs.1
  | false=>rw [hb] at h;exact M7 hs.2 q u h
theorem M8 {B:Bx}:∀ {B':Bx},VS B B'→∀ b x,jU B' b=some x→jU B b=some x
 | [],_,_,_,h=>by cases h
 | (t,s,c)::l',hs,q,u,h=>by
  unfold jU at h
  cases hb:Nat.beq t q with
  | true =>
   rw [hb] at h
   obtain rfl:=Nat.eq_of_beq_eq_true hb
   obtain rfl:=Option.some.inj h
   exact hs.1
  | false=>rw [hb] at h;exact M8 hs.2 q u h
theorem M9 {Γ:Gm}:∀ {Γ':Gm},VT Γ Γ'→∀ g S,lW Γ' g=some S→lW Γ g=some S
 | [],_,_,_,h=>by cases h
 | (t,s)::l',hs,q,u,h=>by
  unfold lW at h
  cases hb:Nat.beq t q with
  | true =>
   rw [hb] at h
   obtain rfl:=Nat.eq_of_beq_eq_true hb
   obtain rfl:=Option.some.inj h
   exact hs.1
  | false=>rw [hb] at h;exact M9 hs.2 q u h
theorem Kb {l':Fr} {B':Bx} {Γ':Gm} (hc:HV P Q n ds w0 cs l' B' Γ') (h1:VR l l') (h2:VS B B') (h3:VT Γ Γ'):HV P Q n ds w0 cs l B Γ:=fun α γ w hH =>
 Ch ((M7 h1).look α γ) (hc α γ w (hH.sub (M8 h2) (M9 h3)))
theorem Ka {c:Code} (l':Fr) (B':Bx) (Γ':Gm) (h1:HV P Q n ds w0 cs l' B' Γ') (h2:HV P Q n ds w0 cs l' B' Γ'→HV P Q n ds w0 (c::cs) l B Γ):HV P Q n ds w0 (c::cs) l B Γ:=h2 h1
theorem Fg {S:RS} (g:Nat) (S':RS) (hG:lW Γ g=some S.S) (hv:∀ w f,S.R w f→S'.R w f) (h:HV P Q n ds w0 cs l B ((g,S'.S)::Γ)):HV P Q n ds w0 cs l B Γ:=fun α γ w hH=>by
 refine h α γ w ⟨hH.ex,hH.box,hH.inj,hH.sc,fun q S2 hq=>?_⟩
 unfold lW at hq
 cases hb:Nat.beq g q with
 | true =>
  rw [hb] at hq
  obtain rfl:=Nat.eq_of_beq_eq_true hb
  obtain rfl:=Option.some.inj hq
  exact ⟨hv w _ (hH.r g hG),hH.noU⟩
 | false=>rw [hb] at hq;exact hH.fact q S2 hq
end
section
variable {P:Program} {T:TypeId} {x y:Operand} {w:World} {f:Nat→Value} {p:Int→Prop}
theorem XY (a b:Int) (X:World):Bn P .gtr T x y (.int .i64 a) (.int .i64 b) X = .ok (.bool (decide (a>b))) X:=by
 by_cases h:a>b
 · rw [decide_eq_true h];exact jR h X
 · rw [decide_eq_false h];exact bz h X
theorem aT (b:Bool) (X:World):(Op.unary .not (.bool b)).run P X = .ok (.bool (!b)) X:=by cases b<;>rfl
theorem eY {s:TypeId} {fields:Array Field} {k:Nat} {fd:Field} {m o:Nat} (hu:P.underlying s=some (.struct fields)) (hf:fields[k]?=some fd) (hs:(P.info? fd.type).map (·.size)=some (m+1)) (ho:fd.offset=o) (N q:Nat) (X:World):(Instr.fieldAt s (.pointer (some ⟨N,q,none⟩)) k).run P X = .ok (.pointer (some ⟨N,q+o,none⟩)) X:=by
 subst ho
 obtain ⟨inf,hi,hz⟩:=Option.map_eq_some_iff.1 hs
 simp [Instr.fieldAt,run_underlying hu,hf,Instr.sureAddr,fieldPlace,sizeOf,typeInfo,hi,hz,Result.andThen,Addr.add_mid]
end
end Go.Proofs.YtgcieamfidoaoaaGreatDoor.Rf
/- Conditions that a fact leaves open, facts under other names, and contracts of dyadic numbers by facts alone. -/
namespace Go.Proofs.YtgcieamfidoaoaaGreatDoor.Rf
open Go Go.RowKit Go.Proofs.YtgcieamfidoaoaaGreatDoor.Pl
set_option maxRecDepth 100000
section
variable {P:Program} {Q:Exit→Act→World→Prop} {n:Nat} {ds:List Deferred} {w0:World} {cs:List Code} {l:Fr} {B:Bx} {Γ:Gm} {L:List Oper}
theorem Fb {ord:Option (List Nat)} {l0:Fr} {B0:Bx} {Γ0:Gm} {tr:Tr} {d:Nat} {o:Oper} {rd:List Nat} {lr:Fr} (s:SV) (Pw:List Nat) (ho:nth L (oi ord tr.length)=some o) (hd:o.dst=some d) (hrd:DK L o.guard++Pw=rd) (hlr:kI (uX l0 tr) rd=lr) (hg:jT L lr o.guard=some true)
  (hk:∀ α γ,known (gI α γ lr) o.op=true) (he:∀ α γ X,(execOp (JQ (gI α γ lr)) o).run P X = .ok (.value (den α γ s)) X) (h:DA P Q n ds w0 cs L ord l0 B0 Γ0 (⟨some d,s,rd,[],[],none,none,none⟩::tr)):DA P Q n ds w0 cs L ord l0 B0 Γ0 tr :=
 BN s Pw [] ho hd hrd hlr hg rfl (fun α γ w _ ρ hρ=>by rw [jI hρ (hk α γ)];exact he α γ w) h
theorem wz {ord:Option (List Nat)} {l0:Fr} {B0:Bx} {Γ0:Gm} {tr:Tr} {d:Nat} {o:Oper} {rd:List Nat} {lr:Fr} {x:Operand} {u:UnOp} {t:TypeId} {a:Value} (v:Value) (ho:nth L (oi ord tr.length)=some o) (hop:o.op = .unOp u t x) (hd:o.dst=some d) (hrd:DK L o.guard++vG x=rd) (hlr:kI (uX l0 tr) rd=lr) (hg:jT L lr o.guard=some true)
  (hx:ev lr x=some (.v a)) (hr:∀ X,(Op.unary u a).run P X = .ok v X) (h:DA P Q n ds w0 cs L ord l0 B0 Γ0 (⟨some d,.v v,rd,[],[],none,none,none⟩::tr)):DA P Q n ds w0 cs L ord l0 B0 Γ0 tr :=
 BN (.v v) (vG x) [] ho hd hrd hlr hg rfl (fun α γ w _ ρ hρ=>by
  unfold execOp
  rw [hop]
  refine dI _ w ?_
  rw [hρ.dK (bT hx)]
  exact hr w) h
end
theorem xE {f:FuncId} {args:Array Value} {w:World} {α:Env} {γ:kR} {P:Program} {v:Value} (s:SV) (g:Nat) (hs:∀ α γ,den α γ s=v) (h:Calls P f args w (fun e w'=>e = .returned v∧Ex w w')) :
 Calls P f args w (fun e w'=>∃ F,(∀ k,bG (F k)=true)∧e = .returned (den α (upd γ g F) s)∧TR.R w' F∧Ex w w'):=Calls.mono h fun e w' ⟨he,hE⟩=>⟨fun _=>.bool false,fun _=>rfl,by rw [hs];exact he,trivial,hE⟩
theorem iW {w:World} {f:Nat→Value} {q:Rat} {L M:Nat} (h:(pI q L M).R w f):Zn w (.agg #[f 0,f 1]) q.num∧Un w (f 1) q.num.natAbs∧Un w (f 2) q.den∧Sz q.num L∧Sn q.den M:=by
 obtain ⟨A,c,B,b,e,u,t,z,y⟩:=h
 have e2:=Array.mk.inj (Value.agg.inj e)
 simp only [List.cons.injEq,and_true] at e2
 rw [e2.1,e2.2.1,e2.2.2]
 exact ⟨⟨A,c,rfl,u⟩,u,t,z,y⟩
theorem Qc {w:World} {f:Nat→Value} {z:Int} (h:(Wu z).R w f):Un w (f 1) z.natAbs:=by
 obtain ⟨A,c,e,u⟩:=h
 have e2:=Array.mk.inj (Value.agg.inj e)
 simp only [List.cons.injEq,and_true] at e2
 rw [e2.2];exact u
end Go.Proofs.YtgcieamfidoaoaaGreatDoor.Rf
/- States under other names; loops. -/
namespace Go.Proofs.YtgcieamfidoaoaaGreatDoor.Rf
open Go Go.RowKit Go.Proofs.YtgcieamfidoaoaaGreatDoor.Pl
set_option maxRecDepth 100000
def Bt:List (Nat × Nat)→Nat→Nat
 | [],n=>n
 | (a,b)::r,n=>match Nat.beq a n with
  | true=>b
  | false=>Bt r n
mutual
def VV (p q:List (Nat × Nat)):SV→SV
 | .v x=>.v x
 | .p b o=>.p (Bt p b) o
 | .c g k=>.c (Bt q g) k
 | .a l=>.a (Au p q l)
 | .t l=>.t (Au p q l)
 | .f fn fs cap=>.f fn (Au p q fs) (Au p q cap)
def Au (p q:List (Nat × Nat)):List SV→List SV
 | []=>[]
 | x::l=>VV p q x::Au p q l
end
mutual
theorem Jv {p q:List (Nat × Nat)} (α:Env) (γ:kR):∀ s:SV,den (fun b=>α (Bt p b)) (fun g=>γ (Bt q g)) s=den α γ (VV p q s)
 | .v x=>rfl
 | .p b o=>rfl
 | .c g k=>rfl
 | .a l=>by show Value.agg _=Value.agg _;rw [oH α γ l]
 | .t l=>by show Value.tuple _=Value.tuple _;rw [oH α γ l]
 | .f fn fs cap=>by show Value.func _ _ _=Value.func _ _ _;rw [oH α γ fs,oH α γ cap]
theorem oH {p q:List (Nat × Nat)} (α:Env) (γ:kR):∀ l:List SV,bZ (fun b=>α (Bt p b)) (fun g=>γ (Bt q g)) l=bZ α γ (Au p q l)
 | []=>rfl
 | x::l=>by show _::_=_::_;rw [Jv α γ x,oH α γ l]
end
def Jw (p q:List (Nat × Nat)) (l:Fr):Fr→Prop
 | []=>True
 | (t,s)::l'=>lk l t=some (VV p q s)∧Jw p q l l'
def Jy (p q:List (Nat × Nat)) (B:Bx):Bx→Prop
 | []=>True
 | (b,u,c)::B'=>jU B (Bt p b)=some (u,Au p q c)∧Jy p q B B'
def Jz (q:List (Nat × Nat)) (Γ:Gm):Gm→Prop
 | []=>True
 | (g,S)::Γ'=>lW Γ (Bt q g)=some S∧Jz q Γ Γ'
def Ta (k:Nat) (p:List (Nat × Nat)):Bx→Bool
 | []=>true
 | (b,_,_)::r=>!(Nat.beq (Bt p b) k)&&Ta k p r
def O8 (p:List (Nat × Nat)):Bx→Bool
 | []=>true
 | (b,_,_)::r=>Ta (Bt p b) p r&&O8 p r
theorem GH {k:Nat} {p:List (Nat × Nat)}:∀ {B:Bx} {b:Nat},Ta k p B=true→hasB B b→Bt p b≠k
 | [],_,_,⟨_,h⟩=>by cases h
 | (b',x)::r,b,h,⟨y,hy⟩=>by
  have h1:(!(Nat.beq (Bt p b') k)&&Ta k p r)=true:=h
  rw [Bool.and_eq_true,Bool.not_eq_true'] at h1
  unfold jU at hy
  cases e:Nat.beq b' b with
  | true =>
   obtain rfl:=Nat.eq_of_beq_eq_true e
   exact Nat.ne_of_beq_eq_false h1.1
  | false=>rw [e] at hy;exact GH h1.2 ⟨y,hy⟩
theorem Nc {p:List (Nat × Nat)}:∀ {B:Bx} {b c:Nat},O8 p B=true→hasB B b→hasB B c→Bt p b=Bt p c→b=c
 | [],_,_,_,⟨_,h⟩,_,_=>by cases h
 | (b',x)::r,b,c,h,⟨y,hy⟩,⟨z,hz⟩,e=>by
  have h1:(Ta (Bt p b') p r&&O8 p r)=true:=h
  rw [Bool.and_eq_true] at h1
  unfold jU at hy hz
  cases e1:Nat.beq b' b with
  | true =>
   obtain rfl:=Nat.eq_of_beq_eq_true e1
   cases e2:Nat.beq b' c with
   | true=>exact Nat.eq_of_beq_eq_true e2
   | false=>rw [e2] at hz;exact absurd e.symm (GH h1.1 ⟨z,hz⟩)
  | false =>
   rw [e1] at hy
   cases e2:Nat.beq b' c with
   | true =>
    obtain rfl:=Nat.eq_of_beq_eq_true e2
    exact absurd e (GH h1.1 ⟨y,hy⟩)
   | false=>rw [e2] at hz;exact Nc h1.2 ⟨y,hy⟩ ⟨z,hz⟩ e
theorem JA {p q:List (Nat × Nat)} {l:Fr}:∀ {l':Fr},Jw p q l l'→∀ t s,lk l' t=some s→lk l t=some (VV p q s)
 | [],_,_,_,h=>by cases h
 | (t,s)::l',hs,r,u,h=>by
  unfold lk at h
  cases hb:Nat.beq t r with
  | true =>
   rw [hb] at h
   obtain rfl:=Nat.eq_of_beq_eq_true hb
   obtain rfl:=Option.some.inj h
   exact hs.1
  | false=>rw [hb] at h;exact JA hs.2 r u h
theorem uz {p q:List (Nat × Nat)} {B:Bx}:∀ {B':Bx},Jy p q B B'→∀ b T c,jU B' b=some (T,c)→jU B (Bt p b)=some (T,Au p q c)
 | [],_,_,_,_,h=>by cases h
 | (b',u,c')::B',hs,b,T,c,h=>by
  unfold jU at h
  cases hb:Nat.beq b' b with
  | true =>
   rw [hb] at h
   obtain rfl:=Nat.eq_of_beq_eq_true hb
   cases h
   exact hs.1
  | false=>rw [hb] at h;exact uz hs.2 b T c h
theorem JB {q:List (Nat × Nat)} {Γ:Gm}:∀ {Γ':Gm},Jz q Γ Γ'→∀ g S,lW Γ' g=some S→lW Γ (Bt q g)=some S
 | [],_,_,_,h=>by cases h
 | (t,s)::l',hs,r,u,h=>by
  unfold lW at h
  cases hb:Nat.beq t r with
  | true =>
   rw [hb] at h
   obtain rfl:=Nat.eq_of_beq_eq_true hb
   obtain rfl:=Option.some.inj h
   exact hs.1
  | false=>rw [hb] at h;exact JB hs.2 r u h
theorem Holds.ren {w0:World} {B B':Bx} {Γ Γ':Gm} {α:Env} {γ:kR} {w:World} {p q:List (Nat × Nat)} (h:Holds w0 B Γ α γ w) (h2:Jy p q B B') (h3:Jz q Γ Γ') (h4:O8 p B'=true) :
  Holds w0 B' Γ' (fun b=>α (Bt p b)) (fun g=>γ (Bt q g)) w:=by
 have hown:∀ k,own B' (fun b=>α (Bt p b)) k→own B α k:=fun k ⟨b,⟨⟨T,c⟩,hb⟩,e⟩=>⟨Bt p b,⟨_,uz h2 b T c hb⟩,e⟩
 refine ⟨h.ex,fun b T cs hb=>?_,fun b c hb hc e=>?_,fun g k=>h.sc _ _,fun g S hg=>?_⟩
 · rw [oH];exact h.box _ T _ (uz h2 b T cs hb)
 · obtain ⟨⟨T,x⟩,hx⟩:=hb
   obtain ⟨⟨U,y⟩,hy⟩:=hc
   exact Nc h4 ⟨_,hx⟩ ⟨_,hy⟩ (h.inj _ _ ⟨_,uz h2 b T x hx⟩ ⟨_,uz h2 c U y hy⟩ e)
 · exact S.grow (h.fact _ S (JB h3 g S hg)) (fun k hk=>.inl (hown k hk)) fun k hk=>(h.mE (hown k hk)).2.2
theorem JC {α:Env} {γ:kR} {l l':Fr} {p q:List (Nat × Nat)} (h:Jw p q l l') {t:Nat} {v:Value} (hv:Go.Proofs.YtgcieamfidoaoaaGreatDoor.Pl.look (gI (fun b=>α (Bt p b)) (fun g=>γ (Bt q g)) l') t=some v):Go.Proofs.YtgcieamfidoaoaaGreatDoor.Pl.look (gI α γ l) t=some v:=by
 rw [fJ] at hv ⊢
 cases e:lk l' t with
 | none=>rw [e] at hv;cases hv
 | some s =>
  rw [e] at hv
  rw [JA h t s e,← hv]
  exact congrArg some (Jv α γ s).symm
section
variable {P:Program} {Q:Exit→Act→World→Prop} {n:Nat} {ds:List Deferred} {w0:World} {cs:List Code} {l l':Fr} {B B':Bx} {Γ Γ':Gm}
theorem jJ (p q:List (Nat × Nat)) (hc:HV P Q n ds w0 cs l' B' Γ') (h1:Jw p q l l') (h2:Jy p q B B') (h3:Jz q Γ Γ') (h4:O8 p B'=true):HV P Q n ds w0 cs l B Γ:=fun α γ w hH =>
 Ch (fun t v hv=>JC h1 hv) (hc _ _ w (hH.ren h2 h3 h4))
variable {X:Type} (lf:X→Fr) (Bf:X→Bx) (Γf:X→Gm) (μ:X→Nat) (pr:X→Prop)
def Tc (w0:World) (k:Nat) (l:List (Nat × Value)) (w:World):Prop:=∃ x,μ x=k∧pr x∧∃ α γ,Holds w0 (Bf x) (Γf x) α γ w∧l=gI α γ (lf x)
theorem Uq {c:Code} (x0:X) (hp:pr x0) (hs:∀ x,pr x→HV P (Exit.then (fun a' w'=>∃ k' l',k'<μ x∧Ag n ds a' l'∧Tc lf Bf Γf μ pr w0 k' l' w') (Ks P Q cs)) n ds w0 [c] (lf x) (Bf x) (Γf x)) :
  HV P Q n ds w0 (.loop c::cs) (lf x0) (Bf x0) (Γf x0):=fun α γ w hH=>by
 refine tN (Tc lf Bf Γf μ pr w0) (μ x0) ⟨x0,rfl,hp,α,γ,hH,rfl⟩ ?_
 rintro k l w ⟨x,rfl,hx,α,γ,hH,rfl⟩
 exact hs x hx α γ w hH
theorem Ij {k:Nat} {Q':Exit→Act→World→Prop} (x':X) (hk:μ x'<k) (hp:pr x') (p q:List (Nat × Nat)) (h1:Jw p q l (lf x')) (h2:Jy p q B (Bf x')) (h3:Jz q Γ (Γf x')) (h4:O8 p (Bf x')=true) :
  HV P (Exit.then (fun a' w'=>∃ k' l',k'<k∧Ag n ds a' l'∧Tc lf Bf Γf μ pr w0 k' l' w') Q') n ds w0 [] l B Γ:=fun α γ w hH a ha =>
 ⟨μ x',_,hk,ha.less (fun t v hv=>JC h1 hv),x',rfl,hp,_,_,hH.ren h2 h3 h4,rfl⟩
end
end Go.Proofs.YtgcieamfidoaoaaGreatDoor.Rf
/- Calls that tell of blocks that are not ours; the larger of two; a dyadic number from its parts. -/
namespace Go.Proofs.YtgcieamfidoaoaaGreatDoor.Rf
open Go Go.RowKit Go.Proofs.YtgcieamfidoaoaaGreatDoor.Pl
set_option maxRecDepth 100000
section
variable {P:Program} {Q:Exit→Act→World→Prop} {n:Nat} {ds:List Deferred} {w0:World} {cs:List Code} {l:Fr} {B:Bx} {Γ:Gm} {L:List Oper}
theorem aec {ord:Option (List Nat)} {l0:Fr} {B0:Bx} {Γ0:Gm} {tr:Tr} {d:Nat} {o:Oper} {x y:Operand} {t:Array TypeId} {rd:List Nat} {lr:Fr} {k:IntKind} {a b:Int} (ho:nth L (oi ord tr.length)=some o) (hop:o.op = .call { callee:=.builtin .max,args:=#[x,y],argTypes:=t }) (hd:o.dst=some d) (hrd:DK L o.guard++(vG x++vG y)=rd) (hlr:kI (uX l0 tr) rd=lr) (hg:jT L lr o.guard=some true)
  (hx:ev lr x=some (.v (.int k a))) (hy:ev lr y=some (.v (.int k b))) (h:DA P Q n ds w0 cs L ord l0 B0 Γ0 (⟨some d,.v (.int k (max a b)),rd,[],[],none,none,none⟩::tr)):DA P Q n ds w0 cs L ord l0 B0 Γ0 tr :=
 BN (.v (.int k (max a b))) (vG x++vG y) [] ho hd hrd hlr hg rfl (fun α γ w _ ρ hρ=>by
  unfold execOp;rw [hop]
  refine dI (Builtin.max_ _ _ (#[x,y].map ρ)) w ?_
  have e1:ρ x = .int k a:=hρ.dK (bT (α:=α) (γ:=γ) hx)
  have e2:ρ y = .int k b:=hρ.dK (bT (α:=α) (γ:=γ) hy)
  rw [show #[x,y].map ρ=#[.int k a,.int k b] from by simp [e1,e2]]
  have e:max a b=if b>a then b else a:=by split<;>omega
  rw [show den α γ (.v (.int k (max a b))) = .int k (max a b) from rfl]
  rw [e]
  exact run_max_int2 _ _ _ _ _ _ _) h
theorem ZJ {ord:Option (List Nat)} {l0:Fr} {B0:Bx} {Γ0:Gm} {tr:Tr} {d:Nat} {o:Oper} {rd:List Nat} {lr:Fr} {Γr:Gm} (Pw gs:List Nat) (g:Nat) (S:Spec) (res:SV)
  (ho:nth L (oi ord tr.length)=some o) (hd:o.dst=some d) (hrd:DK L o.guard++Pw=rd) (hlr:kI (uX l0 tr) rd=lr) (hg:jT L lr o.guard=some true) (hΓ:qj (E5 Γ0 tr) gs=Γr)
  (BM:∀ α γ w,Holds w0 [] Γr α γ w→∃ F w',(∀ k,bG (F k)=true)∧(∀ ρ,Cons ρ (gI α γ lr)→(execOp ρ o).run P w = .ok (.value (den α (upd γ g F) res)) w')∧(∀ X:Nat→Prop,(∀ k,X k→k<w.heap.size∧Ei w k)→S.P X w' F)∧Ex w w')
  (h:DA P Q n ds w0 cs L ord l0 B0 Γ0 (⟨some d,res,rd,[],gs,none,none,some (g,S)⟩::tr)):DA P Q n ds w0 cs L ord l0 B0 Γ0 tr:=fun ha=>h (by
 subst hΓ hlr
 exact ⟨.eff o d g S res rd gs ho hd hg BM,ha⟩)
theorem mH {r:nu} {i mm d:Nat} {o:Oper} {e:TypeId} {m:Nat} (vs:List Value) (g:Nat) (S:RS)
  (ho:nth L i=some o) (hd:o.dst=some d) (hg:jT L l o.guard=some true) (hk:∀ α γ,known (gI α γ l) o.op=true)
  (he:∀ α γ X,(execOp (JQ (gI α γ l)) o).run P X = .ok (.value (.slice (some ⟨X.heap.size,0,none⟩) m m)) (X.alloc (.cells vs.toArray e)))
  (hfr:fresh g l B Γ=true) (hR:∀ N w,Cb w N e vs→S.R w (wo [.slice (some ⟨N,0,none⟩) m m]))
  (h:HA P Q n ds w0 cs L r ((d,.c g 0)::l) B ((g,S.S)::Γ)):HA P Q n ds w0 cs L ((false,i,mm)::r) l B Γ:=fun α γ w hH=>by
 obtain ⟨h1,h2,h3⟩:=mM hfr
 have DF:=hH.ext (Ex.alloc w (.cells vs.toArray e))
 have hA:=h α (upd γ g (wo [.slice (some ⟨w.heap.size,0,none⟩) m m])) _ (DF.add g S.S _ h2 (eG rfl) ⟨hR _ _ (Cb.new w e vs),DF.noU⟩ h3)
 rw [qm,mO l h1,show den α (upd γ g (wo [.slice (some ⟨w.heap.size,0,none⟩) m m])) (.c g 0)=upd γ g (wo [.slice (some ⟨w.heap.size,0,none⟩) m m]) g 0 from rfl,upd_same] at hA
 exact kP ho hd (gy hg α γ) (fun ρ hρ=>by rw [jI hρ (hk α γ)];exact he α γ w) trivial hA
end
def VU (T:TypeId) (n:Nat) (cs:List Value):Spec where
 P X w f:=∃ N,f 0 = .slice (some ⟨N,0,none⟩) n n∧¬ X N∧Cb w N T cs
 keep:=fun ⟨N,h1,h2,h3⟩ _ hk _ _=>⟨N,h1,h2,(hk N (Cb.lt h3) h2).trans h3⟩
 grow:=fun ⟨N,h1,h2,h3⟩ hY _=>⟨N,h1,fun h=>(hY N h).elim h2 (fun h9=>by have:=Cb.lt h3;omega),h3⟩
section
variable {P:Program} {Q:Exit→Act→World→Prop} {n:Nat} {ds:List Deferred} {w0:World} {cs:List Code} {l:Fr} {B:Bx} {Γ:Gm} {L:List Oper}
theorem aa6 {ord:Option (List Nat)} {l0:Fr} {B0:Bx} {Γ0:Gm} {tr:Tr} {d:Nat} {o:Oper} {rd:List Nat} {lr:Fr} {e:TypeId} {m:Nat} (vs:List Value) (g:Nat)
  (ho:nth L (oi ord tr.length)=some o) (hd:o.dst=some d) (Pw:List Nat) (hrd:DK L o.guard++Pw=rd) (hlr:kI (uX l0 tr) rd=lr) (hg:jT L lr o.guard=some true) (hk:∀ α γ,known (gI α γ lr) o.op=true)
  (he:∀ α γ X,(execOp (JQ (gI α γ lr)) o).run P X = .ok (.value (.slice (some ⟨X.heap.size,0,none⟩) m m)) (X.alloc (.cells vs.toArray e)))
  (h:DA P Q n ds w0 cs L ord l0 B0 Γ0 (⟨some d,.c g 0,rd,[],[],none,none,some (g,VU e m vs)⟩::tr)):DA P Q n ds w0 cs L ord l0 B0 Γ0 tr :=
 ZJ Pw [] g (VU e m vs) (.c g 0) ho hd hrd hlr hg rfl (fun α γ w _=>⟨wo [.slice (some ⟨w.heap.size,0,none⟩) m m],w.alloc (.cells vs.toArray e),eG rfl,fun ρ hρ=>by
  rw [jI hρ (hk α γ),he α γ w,show den α (upd γ g (wo [.slice (some ⟨w.heap.size,0,none⟩) m m])) (.c g 0)=upd γ g (wo [.slice (some ⟨w.heap.size,0,none⟩) m m]) g 0 from rfl,upd_same]
  rfl,fun X hX=>⟨w.heap.size,rfl,fun h9=>by have:=(hX _ h9).1;omega,Cb.new w e vs⟩,Ex.alloc w _⟩) h
theorem Yo {r:nu} {i mm d:Nat} {o:Oper} {e:TypeId} {m:Nat} (vs:List Value) (g:Nat)
  (ho:nth L i=some o) (hd:o.dst=some d) (hg:jT L l o.guard=some true) (hk:∀ α γ,known (gI α γ l) o.op=true)
  (he:∀ α γ X,(execOp (JQ (gI α γ l)) o).run P X = .ok (.value (.slice (some ⟨X.heap.size,0,none⟩) m m)) (X.alloc (.cells vs.toArray e)))
  (hfr:fresh g l B Γ=true) (h:HA P Q n ds w0 cs L r ((d,.c g 0)::l) B ((g,VU e m vs)::Γ)):HA P Q n ds w0 cs L ((false,i,mm)::r) l B Γ:=fun α γ w hH=>by
 obtain ⟨h1,h2,h3⟩:=mM hfr
 have DF:=hH.ext (Ex.alloc w (.cells vs.toArray e))
 have hA:=h α (upd γ g (wo [.slice (some ⟨w.heap.size,0,none⟩) m m])) _ (DF.add g (VU e m vs) _ h2 (eG rfl) ⟨w.heap.size,rfl,fun h9=>by have:=(hH.mE h9).1;omega,Cb.new w e vs⟩ h3)
 rw [qm,mO l h1,show den α (upd γ g (wo [.slice (some ⟨w.heap.size,0,none⟩) m m])) (.c g 0)=upd γ g (wo [.slice (some ⟨w.heap.size,0,none⟩) m m]) g 0 from rfl,upd_same] at hA
 exact kP ho hd (gy hg α γ) (fun ρ hρ=>by rw [jI hρ (hk α γ)];exact he α γ w) trivial hA
end
end Go.Proofs.YtgcieamfidoaoaaGreatDoor.Rf
/- Many plain steps at once; what several equations tell, told by one. -/
namespace Go.Proofs.YtgcieamfidoaoaaGreatDoor.Pl
open Go Go.RowKit
set_option maxRecDepth 100000
theorem en {P:Program} {f:FuncId} {fn:Func} (hf:P.funcs[f]?=some fn) (h:(fn.name != "runtime.NumGoroutine" && fn.body.isSome)=true:=by kernel_rfl) (u:Array Value) (X:World):(callFunc f u).run P X = .ok (.enter f u) X:=by
 rw [Bool.and_eq_true] at h
 obtain ⟨c,hc⟩:=Option.isSome_iff_exists.1 h.2
 exact enters hf (by simpa using h.1) hc u X
end Go.Proofs.YtgcieamfidoaoaaGreatDoor.Pl
namespace Go.Proofs.YtgcieamfidoaoaaGreatDoor.Rf
open Go Go.RowKit Go.Proofs.YtgcieamfidoaoaaGreatDoor.Pl
set_option maxRecDepth 100000
abbrev vI (z:Int):SV:=.v (.int .i64 z)
abbrev vB (b:Bool):SV:=.v (.bool b)
abbrev vT:SV:=.v (.bool true)
abbrev vF:SV:=.v (.bool false)
abbrev vN:SV:=.v (.slice none 0 0)
def sqs:Nat→List Code→List Code
 | m+1,.seq a b::r=>sqs m (a::b::r)
 | _,r=>r
def vW (T:TI) (L:List Oper):nu→Fr→Bx→Nat→Option (nu × Fr × Bx × Nat)
 | (false,i,m)::r,l,B,k=>match nth L i with
  | none=>some ((false,i,m)::r,l,B,k)
  | some o=>match jT L l o.guard with
   | none=>some ((false,i,m)::r,l,B,k)
   | some false=>match o.dst with
    | some d=>vW T L r ((d,.v undef)::l) B k
    | none=>some ((false,i,m)::r,l,B,k)
   | some true=>match O3 T l B k o.op with
    | none=>some ((false,i,m)::r,l,B,k)
    | some (some s,B',k')=>match o.dst with
     | some d=>vW T L r ((d,s)::l) B' k'
     | none=>some ((false,i,m)::r,l,B,k)
    | some (none,B',k')=>match o.dst with
     | none=>vW T L r l B' k'
     | some _=>some ((false,i,m)::r,l,B,k)
 | r,l,B,k=>some (r,l,B,k)
theorem yE {T:TI} {L:List Oper}:∀ (r:nu) {l:Fr} {B:Bx} {k:Nat},vW T L r l B k=some (Dh T L r l B k)
 | [],l,B,k=>rfl
 | (true,i,m)::r,l,B,k=>rfl
 | (false,i,m)::r,l,B,k=>by
  unfold vW Dh
  cases nth L i with
  | none=>rfl
  | some o =>
   dsimp only
   cases jT L l o.guard with
   | none=>rfl
   | some b =>
    cases b with
    | false =>
     dsimp only
     cases o.dst with
     | none=>rfl
     | some d=>exact yE r
    | true =>
     dsimp only
     cases O3 T l B k o.op with
     | none=>rfl
     | some q =>
      obtain ⟨s,B',k'⟩:=q
      cases s with
      | none =>
       dsimp only
       cases o.dst with
       | none=>exact yE r
       | some d=>rfl
      | some s =>
       dsimp only
       cases o.dst with
       | none=>rfl
       | some d=>exact yE r
theorem yF {T:TI} {L:List Oper} {r r':nu} {l l':Fr} {B B':Bx} {k k':Nat} (h:vW T L r l B k=some (r',l',B',k')):Dh T L r l B k=(r',l',B',k'):=by
 rw [yE] at h;exact Option.some.inj h
def KF (n:Nat) (T:TI):Nat→List Code→Fr→Bx→Nat→Option (List Code × Fr × Bx × Nat)
 | 0,cs,l,B,k=>some (sqs 200 cs,l,B,k)
 | m+1,cs,l,B,k=>match sqs 200 cs with
  | .skip::r=>KF n T m r l B k
  | .cond c x y::r=>match ev l c with
   | some (.v (.bool true))=>KF n T m (x::r) l B k
   | some (.v (.bool false))=>KF n T m (y::r) l B k
   | _=>none
  | .region _ ⟨L⟩ false::r=>match rZ n L with
   | true=>match vW T L (Py 0 L) l B k with
    | some ([],l',B',k')=>KF n T m r l' B' k'
    | _=>none
   | false=>none
  | _=>none
def VW (n:Nat) (T:TI) (m:Nat) (cs:List Code) (l:Fr) (B:Bx) (k:Nat):Option (List Oper × nu × List Code × Fr × Bx × Nat):=match KF n T m cs l B k with
 | some (.region _ ⟨L⟩ false::r,l1,B1,k1)=>match rZ n L with
  | true=>match vW T L (Py 0 L) l1 B1 k1 with
   | some (p,l',B',k')=>some (L,p,r,l',B',k')
   | none=>none
  | false=>none
 | _=>none
def acU (n:Nat) (T:TI) (L:List Oper) (p:nu) (m:Nat) (cs:List Code) (l:Fr) (B:Bx) (k:Nat):Option (List Code × Fr × Bx × Nat):=match vW T L p l B k with
 | some ([],l1,B1,k1)=>KF n T m cs l1 B1 k1
 | _=>none
def XC (n:Nat) (T:TI) (L:List Oper) (p:nu) (m:Nat) (cs:List Code) (l:Fr) (B:Bx) (k:Nat):Option (List Oper × nu × List Code × Fr × Bx × Nat):=match vW T L p l B k with
 | some ([],l1,B1,k1)=>VW n T m cs l1 B1 k1
 | _=>none
section
variable {P:Program} {Q:Exit→Act→World→Prop} {n:Nat} {ds:List Deferred} {w0:World} {Γ:Gm} {T:TI}
theorem GI:∀ (m:Nat) {cs:List Code} {l:Fr} {B:Bx},HV P Q n ds w0 (sqs m cs) l B Γ→HV P Q n ds w0 cs l B Γ
 | 0,cs,l,B,h=>by
  have e:sqs 0 cs=cs:=by cases cs with | nil=>rfl | cons c r=>cases c<;>rfl
  rw [e] at h;exact h
 | m+1,cs,l,B,h=>by
  cases cs with
  | nil=>exact h
  | cons c r=>cases c with
   | seq a b=>exact aO (GI m h)
   | _=>exact h
theorem wS (hT:E8 P T):∀ (m:Nat) {cs cs':List Code} {l l':Fr} {B B':Bx} {k k':Nat},KF n T m cs l B k=some (cs',l',B',k')→HV P Q n ds w0 cs' l' B' Γ→HV P Q n ds w0 cs l B Γ
 | 0,cs,cs',l,l',B,B',k,k',e,h=>by
  cases e;exact GI 200 h
 | m+1,cs,cs',l,l',B,B',k,k',e,h=>by
  refine GI 200 ?_
  unfold KF at e
  split at e
  · next r hc=>rw [hc];exact pQ (wS hT m e h)
  · next c x y r hc =>
    rw [hc]
    split at e
    · next hv=>exact pR hv (wS hT m e h)
    · next hv=>exact kv hv (wS hT m e h)
    · cases e
  · next id L r hc =>
    rw [hc]
    split at e
    · next hk =>
      split at e
      · next l1 B1 k1 hx=>exact dH (L:=L) hk (ay hT k (yF hx) (gK (wS hT m e h)))
      · cases e
    · cases e
  · cases e
theorem Nh (hT:E8 P T) {m:Nat} {cs cs':List Code} {l l':Fr} {B B':Bx} {k k':Nat} {L:List Oper} {p:nu} (e:VW n T m cs l B k=some (L,p,cs',l',B',k')) (h:HA P Q n ds w0 cs' L p l' B' Γ):HV P Q n ds w0 cs l B Γ:=by
 unfold VW at e
 split at e
 · next id L1 r l1 B1 k1 ha =>
   refine wS hT m ha ?_
   split at e
   · next hk =>
     split at e
     · next p1 l2 B2 k2 hx =>
       cases e
       exact dH (L:=L) hk (ay hT _ (yF hx) h)
     · cases e
   · cases e
 · cases e
theorem HX (hT:E8 P T) (m k:Nat) {cs cs':List Code} {l l':Fr} {B B':Bx} {k':Nat} (e:KF n T m cs l B k=some (cs',l',B',k')) (h:HV P Q n ds w0 cs' l' B' Γ):HV P Q n ds w0 cs l B Γ:=wS hT m e h
theorem bu (hT:E8 P T) (m k:Nat) {cs cs':List Code} {l l':Fr} {B B':Bx} {k':Nat} {L:List Oper} {p:nu} (e:VW n T m cs l B k=some (L,p,cs',l',B',k')) (h:HA P Q n ds w0 cs' L p l' B' Γ):HV P Q n ds w0 cs l B Γ:=Nh hT e h
theorem HY (hT:E8 P T) (m k:Nat) {cs cs':List Code} {l l':Fr} {B B':Bx} {k':Nat} {L:List Oper} {p:nu} (e:acU n T L p m cs l B k=some (cs',l',B',k')) (h:HV P Q n ds w0 cs' l' B' Γ):HA P Q n ds w0 cs L p l B Γ:=by
 unfold acU at e
 split at e
 · next hx=>exact ay hT k (yF hx) (gK (wS hT m e h))
 · cases e
theorem bY (hT:E8 P T) (m k:Nat) {cs cs':List Code} {l l':Fr} {B B':Bx} {k':Nat} {L L':List Oper} {p p':nu} (e:XC n T L p m cs l B k=some (L',p',cs',l',B',k')) (h:HA P Q n ds w0 cs' L' p' l' B' Γ):HA P Q n ds w0 cs L p l B Γ:=by
 unfold XC at e
 split at e
 · next hx=>exact ay hT k (yF hx) (gK (Nh hT e h))
 · cases e
end
def hdS:SV→Option SV
 | .v x=>some (.v x)
 | .p b o=>some (.p b o)
 | .c g k=>some (.c g k)
 | .a l=>some (.a l)
 | .t l=>some (.t l)
 | .f a b c=>some (.f a b c)
theorem ZK (s:SV):hdS s=some s:=by cases s<;>rfl
def O9:List SV→Option (List SV)
 | []=>some []
 | s::r=>match hdS s with
  | some s'=>match O9 r with
   | some r'=>some (s'::r')
   | none=>none
  | none=>none
theorem GJ:∀ l:List SV,O9 l=some l
 | []=>rfl
 | s::r=>by unfold O9;rw [ZK,GJ r]
def frS:SV→Option SV
 | .a l=>match O9 l with
  | some l'=>some (.a l')
  | none=>none
 | s=>hdS s
theorem ZL (s:SV):frS s=some s:=by
 cases s with
 | a l=>show (match O9 l with | some l'=>some (SV.a l') | none=>none)=_;rw [GJ]
 | _=>rfl
def VX (l:Fr):List Nat→Option Fr
 | []=>some []
 | t::ts=>match lk l t with
  | some s=>match frS s with
   | some s'=>match VX l ts with
    | some r=>some ((t,s')::r)
    | none=>none
   | none=>none
  | none=>none
theorem Ni {l:Fr}:∀ {ts:List Nat} {l':Fr},VX l ts=some l'→VR l l'
 | [],_,h=>by cases h;trivial
 | t::ts,l',h=>by
  unfold VX at h
  split at h
  · next s hs =>
    rw [ZL] at h
    dsimp only at h
    split at h
    · next r hr=>cases h;exact ⟨hs,Ni hr⟩
    · cases h
  · cases h
def VY (B:Bx):List Nat→Option Bx
 | []=>some []
 | b::bs=>match jU B b with
  | some (u,c)=>match O9 c with
   | some c'=>match VY B bs with
    | some r=>some ((b,u,c')::r)
    | none=>none
   | none=>none
  | none=>none
theorem Nj {B:Bx}:∀ {bs:List Nat} {B':Bx},VY B bs=some B'→VS B B'
 | [],_,h=>by cases h;trivial
 | b::bs,B',h=>by
  unfold VY at h
  split at h
  · next u c hs =>
    rw [GJ] at h
    dsimp only at h
    split at h
    · next r hr=>cases h;exact ⟨hs,Nj hr⟩
    · cases h
  · cases h
def VZ (Γ:Gm):List Nat→Option Gm
 | []=>some []
 | g::gs=>match lW Γ g with
  | some S=>match VZ Γ gs with
   | some r=>some ((g,S)::r)
   | none=>none
  | none=>none
theorem Nk {Γ:Gm}:∀ {gs:List Nat} {Γ':Gm},VZ Γ gs=some Γ'→VT Γ Γ'
 | [],_,h=>by cases h;trivial
 | g::gs,Γ',h=>by
  unfold VZ at h
  split at h
  · next S hs =>
    split at h
    · next r hr=>cases h;exact ⟨hs,Nk hr⟩
    · cases h
  · cases h
def kpA (l:Fr) (B:Bx) (Γ:Gm) (ts bs gs:List Nat):Option (Fr × Bx × Gm):=match VX l ts with
 | some l'=>match VY B bs with
  | some B'=>match VZ Γ gs with
   | some Γ'=>some (l',B',Γ')
   | none=>none
  | none=>none
 | none=>none
theorem aP {P:Program} {Q:Exit→Act→World→Prop} {n:Nat} {ds:List Deferred} {w0:World} {cs:List Code} {l l':Fr} {B B':Bx} {Γ Γ':Gm} (ts bs gs:List Nat) (e:kpA l B Γ ts bs gs=some (l',B',Γ')) (h:HV P Q n ds w0 cs l' B' Γ'):HV P Q n ds w0 cs l B Γ:=by
 unfold kpA at e
 split at e
 · next l1 h1 =>
   split at e
   · next B1 h2 =>
     split at e
     · next G1 h3=>cases e;exact Kb h (Ni h1) (Nj h2) (Nk h3)
     · cases e
   · cases e
 · cases e
section
variable {P:Program} {Q:Exit→Act→World→Prop} {n:Nat} {ds:List Deferred} {w0:World} {cs:List Code} {l:Fr} {B:Bx} {Γ:Gm} {L:List Oper}
theorem iB {cs0:List Code} {id:Nat} (ord:Option (List Nat)) (hm:P.follows .mixedOrders=true) (e:sqs 200 cs0 = .region id L.toArray true::cs) (h:DA P Q n ds w0 cs L ord l B Γ []):HV P Q n ds w0 cs0 l B Γ:=GI 200 (by rw [e];exact aQ ord hm h)
theorem ah {r:nu} {i m d:Nat} {o:Oper} {x y:Operand} {op:BinOp} {tx ty:TypeId} {u u' v:Value} (hr:∀ X,Bn P op tx x y u u' X = .ok v X)
  (e:(nth L i,o.op,o.dst,jT L l o.guard,ev l x,ev l y)=(some o,.binOp op tx x y ty,some d,some true,some (.v u),some (.v u')))
  (h:HA P Q n ds w0 cs L r ((d,.v v)::l) B Γ):HA P Q n ds w0 cs L ((false,i,m)::r) l B Γ:=by
 simp only [Prod.mk.injEq] at e
 exact Cc hr e.1 e.2.1 e.2.2.1 e.2.2.2.1 e.2.2.2.2.1 e.2.2.2.2.2 h
theorem aC {r:nu} {i m d:Nat} {o:Oper} {f:FuncId} {xs:List Operand} {ats:Array TypeId} {ss:List SV} (g:Nat) (S:RS) (res:SV)
  (e:(nth L i,o.op,o.dst,jT L l o.guard,evs l xs,fresh g l B Γ)=(some o,.call { callee:=.value (.func f),args:=xs.toArray,argTypes:=ats },some d,some true,some ss,true)) (hf:∀ (u:Array Value) X,(callFunc f u).run P X = .ok (.enter f u) X)
  (BM:∀ α γ w,Holds w0 B Γ α γ w→Calls P f (bZ α γ ss).toArray w (fun e w'=>∃ F,(∀ k,bG (F k)=true)∧e = .returned (den α (upd γ g F) res)∧S.R w' F∧Ex w w'))
  (h:HA P Q n ds w0 cs L r ((d,res)::l) B ((g,S.S)::Γ)):HA P Q n ds w0 cs L ((false,i,m)::r) l B Γ:=by
 simp only [Prod.mk.injEq] at e
 exact afz g S res e.1 e.2.1 e.2.2.1 e.2.2.2.1 e.2.2.2.2.1 e.2.2.2.2.2 hf BM h
theorem aV {r:nu} {i m d:Nat} {o:Oper} {x:Operand} {u:UnOp} {t:TypeId} {a:Value} (v:Value) (e:(nth L i,o.op,o.dst,jT L l o.guard,ev l x)=(some o,.unOp u t x,some d,some true,some (.v a))) (hr:∀ X,(Op.unary u a).run P X = .ok v X)
  (h:HA P Q n ds w0 cs L r ((d,.v v)::l) B Γ):HA P Q n ds w0 cs L ((false,i,m)::r) l B Γ:=by
 simp only [Prod.mk.injEq] at e
 exact acT v e.1 e.2.1 e.2.2.1 e.2.2.2.1 e.2.2.2.2 hr h
variable {ord:Option (List Nat)} {l0:Fr} {B0:Bx} {Γ0:Gm} {tr:Tr}
theorem ak {d:Nat} {o:Oper} {f:FuncId} {xs:List Operand} {ats:Array TypeId} {ss:List SV} {rd gs:List Nat} {lr:Fr} {Γr:Gm} (g:Nat) (S:RS) (res:SV)
  (e:(nth L (oi ord tr.length),o.op,o.dst,DK L o.guard++P6 xs,kI (uX l0 tr) rd,jT L lr o.guard,evs lr xs,K8 ss,qj (E5 Γ0 tr) gs)=(some o,.call { callee:=.value (.func f),args:=xs.toArray,argTypes:=ats },some d,rd,lr,some true,some ss,gs,Γr)) (hf:∀ (u:Array Value) X,(callFunc f u).run P X = .ok (.enter f u) X)
  (BM:∀ α γ w,Holds w0 [] Γr α γ w→Calls P f (bZ α γ ss).toArray w (fun e w'=>∃ F,(∀ k,bG (F k)=true)∧e = .returned (den α (upd γ g F) res)∧S.R w' F∧Ex w w'))
  (h:DA P Q n ds w0 cs L ord l0 B0 Γ0 (⟨some d,res,rd,[],gs,none,none,some (g,S.S)⟩::tr)):DA P Q n ds w0 cs L ord l0 B0 Γ0 tr:=by
 simp only [Prod.mk.injEq] at e
 exact ZG g S res e.1 e.2.1 e.2.2.1 e.2.2.2.1 e.2.2.2.2.1 e.2.2.2.2.2.1 e.2.2.2.2.2.2.1 e.2.2.2.2.2.2.2.1 e.2.2.2.2.2.2.2.2 hf BM h
theorem dL {d:Nat} {o:Oper} {rd gs:List Nat} {lr:Fr} {Γr:Gm} {op:BinOp} {tx ty:TypeId} {x y:Operand} {sx sy:SV} (s:SV)
  (e:(nth L (oi ord tr.length),o.op,o.dst,DK L o.guard++(vG x++vG y),kI (uX l0 tr) rd,jT L lr o.guard,ev lr x,ev lr y,gsO sx++gsO sy,qj (E5 Γ0 tr) gs)=(some o,.binOp op tx x y ty,some d,rd,lr,some true,some sx,some sy,gs,Γr))
  (hr:∀ α γ w,Holds w0 [] Γr α γ w→Bn P op tx x y (den α γ sx) (den α γ sy) w = .ok (den α γ s) w)
  (h:DA P Q n ds w0 cs L ord l0 B0 Γ0 (⟨some d,s,rd,[],gs,none,none,none⟩::tr)):DA P Q n ds w0 cs L ord l0 B0 Γ0 tr:=by
 simp only [Prod.mk.injEq] at e
 exact Be s e.1 e.2.1 e.2.2.1 e.2.2.2.1 e.2.2.2.2.1 e.2.2.2.2.2.1 e.2.2.2.2.2.2.1 e.2.2.2.2.2.2.2.1 e.2.2.2.2.2.2.2.2.1 e.2.2.2.2.2.2.2.2.2 hr h
end
end Go.Proofs.YtgcieamfidoaoaaGreatDoor.Rf
