/- Whole numbers: products. -/
import Derived.Test.YtnilonnkcbkdmaaGreatDoorBai
import Derived.Test.YtnilonnkcbkdmaaGreatDoorBas
import Derived.Test.YtnilonnkcbkdmaaGreatDoorBba
import Derived.Deep.RegionHeld3

namespace Go.Proofs.YtnilonnkcbkdmaaGreatDoor
open Go.RowKit
set_option linter.unusedVariables false
set_option maxHeartbeats 400000
theorem apg (p q:Bool) (n m:Nat):sg (!(p==q)) (n*m)=sg p n*sg q m:=by
 cases p<;>cases q<;>simp [sg,Int.mul_neg,Int.neg_mul]
set_option maxRecDepth 100000 in
set_option maxHeartbeats 8000000 in
theorem Ye (w:World) (va vb:Value) (a b:Int) (ha:Zn w va a) (hb:Zn w vb b) (hl:(limbs a.natAbs).length≤398) (hl2:(limbs b.natAbs).length≤398) (y:Int) (hy:a*b=y) :
  Calls Tryz.prog 45 #[va,vb] w fun e w'=>∃ u,e = .returned u∧Zn w' u y∧Ext w w':=by
 obtain ⟨p,A,L,c,n,rfl,hu,hL,hz,-,hza,hzn⟩:=ha.open
 obtain ⟨q,B,K,d,m,rfl,hv,hK,hz2,-,xA,Fz⟩:=hb.open
 rw [hza] at hl
 rw [xA] at hl2
 obtain ⟨k,hk⟩:∃ k,n*m=k:=⟨_,rfl⟩
 have hM:=Lib.hid (fun W h g=>mulN W (.slice A L c) (.slice B K d) n m k h g hl hl2 hk)
 have hMk:=Lib.hid (fun W v (h:Un W v k)=>tH W (!(p==q)) v (limbs k) h k (aG _) y (by rw [← hk,apg,← hz,← hz2];exact hy))
 have hE0:=((((Ext.refl w).alloc (.cells #[.bool p,.slice A L c] 27)).alloc (.cells #[.bool q,.slice B K d] 27)).alloc (.cells #[.bool false,.slice none 0 0] 27)).drew
 have hI0:=(Ib.aad w (.cells #[.bool p,.slice A L c] 27) (.cells #[.bool q,.slice B K d] 27) false (.slice none 0 0) 27).ext (Ext.refl _).drew
 have Dh:=(Ib.new w p (.slice A L c) 27).ext ((((Ext.refl _).alloc (.cells #[.bool q,.slice B K d] 27)).alloc (.cells #[.bool false,.slice none 0 0] 27)).drew)
 have qj:=(Ib.new2 w (.cells #[.bool p,.slice A L c] 27) q (.slice B K d) 27).ext (((Ext.refl _).alloc (.cells #[.bool false,.slice none 0 0] 27)).drew)
 have hu0:=hu.below hE0
 have hv0:=hv.below hE0
 obtain ⟨p0,p1,p2,p3,p4⟩:=id Dh
 obtain ⟨q0,q1,q2,q3,q4⟩:=id qj
 clear hl hl2 hza hzn xA Fz hz hz2 hL hK ha hb hy hk
 go_enter Tryz.func45,Tryz.ntmps45
 have hS0:(w.heap.size+1+1<(((w.alloc (.cells #[.bool p,.slice A L c] 27)).alloc (.cells #[.bool q,.slice B K d] 27)).alloc (.cells #[.bool false,.slice none 0 0] 27)).drew.heap.size∧(((w.alloc (.cells #[.bool p,.slice A L c] 27)).alloc (.cells #[.bool q,.slice B K d] 27)).alloc (.cells #[.bool false,.slice none 0 0] 27)).drew.cell? ⟨w.heap.size,0,none⟩=some (.bool p)∧(((w.alloc (.cells #[.bool p,.slice A L c] 27)).alloc (.cells #[.bool q,.slice B K d] 27)).alloc (.cells #[.bool false,.slice none 0 0] 27)).drew.cell? ⟨w.heap.size,1,none⟩=some (.slice A L c)∧(((w.alloc (.cells #[.bool p,.slice A L c] 27)).alloc (.cells #[.bool q,.slice B K d] 27)).alloc (.cells #[.bool false,.slice none 0 0] 27)).drew.cell? ⟨w.heap.size+1,0,none⟩=some (.bool q)∧(((w.alloc (.cells #[.bool p,.slice A L c] 27)).alloc (.cells #[.bool q,.slice B K d] 27)).alloc (.cells #[.bool false,.slice none 0 0] 27)).drew.cell? ⟨w.heap.size+1,1,none⟩=some (.slice B K d))∧Ext w (((w.alloc (.cells #[.bool p,.slice A L c] 27)).alloc (.cells #[.bool q,.slice B K d] 27)).alloc (.cells #[.bool false,.slice none 0 0] 27)).drew:=⟨⟨by simp,p1,p2,q1,q2⟩,hE0⟩
 clear p0 p1 p2 p3 p4 q0 q1 q2 q3 q4
 go_wp2
 go_region_held3 (fun X=>(w.heap.size+1+1<X.heap.size∧X.cell? ⟨w.heap.size,0,none⟩=some (.bool p)∧X.cell? ⟨w.heap.size,1,none⟩=some (.slice A L c)∧X.cell? ⟨w.heap.size+1,0,none⟩=some (.bool q)∧X.cell? ⟨w.heap.size+1,1,none⟩=some (.slice B K d))∧Ext w X)
  (first
   | exact hS0
   | exact afX (by assumption) (by assumption)
   | exact afY (by assumption))
  (first
   | (go_at_call 63;((with_reducible refine (hM.out _ hu0 hv0).mono ?_);rintro e w2 ⟨u,rfl,hu2,hE2⟩;obtain ⟨A2,c2,rfl,hc2⟩:=Un.sh hu2))
   | (go_at_call 44;((with_reducible refine (hMk.out _ _ hu2).mono ?_);rintro e w3 ⟨u,rfl,hz3,pE⟩;obtain ⟨b3,A3,L3,c3,rfl⟩:=hz3.sh;have Bu:=(hI0.ext hE2).ext pE;obtain ⟨i0,i1,i2,i3,i4⟩:=id Bu)))
 clear Bu hM hMk
 go_wp2
 (try simp only [Exit.inBlock,Exit.then])
 refine bodyPost_ret (v:=.agg #[.bool b3,.slice A3 L3 c3]) (show (results _ _).run _ _=_ from ?_) rfl ⟨_,rfl,hz3.jS ((hI0.ext hE2).ext pE) (dF _ _ _) _ _,((hE0.below hE2).below pE).jS (by omega) _ _⟩
 simp only [results]
 go_simp
end Go.Proofs.YtnilonnkcbkdmaaGreatDoor
/- Whole numbers: sums and differences. -/
namespace Go.Proofs.YtnilonnkcbkdmaaGreatDoor
open Go.RowKit
set_option linter.unusedVariables false
set_option maxHeartbeats 400000
set_option maxRecDepth 100000 in
set_option maxHeartbeats 4000000 in
theorem avA (w:World) (b:Bool) (A:Option Addr) (L c n:Nat) (hu:Un w (.slice A L c) n) (vm:Value) (m:Nat) (hv:Un w vm m) (hl:(limbs n).length≤1000000) (hl2:(limbs m).length≤1000000) (y:Int) (hy:sg b (n+m)=y) :
  Calls Tryz.prog 101 #[.agg #[.bool b,.slice A L c],vm] w fun e w'=>∃ u,e = .returned u∧Zn w' u y∧Ext w w':=by
 obtain ⟨A1,c1,rfl,-⟩:=Un.sh hv
 obtain ⟨L1,hL1⟩:∃ L,(limbs m).length=L:=⟨_,rfl⟩
 have hA:=Lib.hid (fun W h g=>afV W (.slice A L c) (.slice A1 (limbs m).length c1) n m h g (by omega) (by omega) _ rfl)
 rw [hL1] at hA hv ⊢
 have hE0:=(((Ext.refl w).alloc (.cells #[.bool b,.slice A L c] 107)).alloc (.cells #[.bool false,.slice none 0 0] 27)).drew
 have hI0:=(Ib.new2 w (.cells #[.bool b,.slice A L c] 107) false (.slice none 0 0) 27).ext (Ext.refl _).drew
 have Dh:=(Ib.new w b (.slice A L c) 107).ext ((Ext.refl _).alloc (.cells #[.bool false,.slice none 0 0] 27)).drew
 have hu0:=hu.below hE0
 have hv0:=hv.below hE0
 have hM:=Lib.hid (fun W v h=>tH W b v (limbs (n+m)) h (n+m) (aG _) y hy)
 obtain ⟨p0,p1,p2,p3,p4⟩:=id Dh
 clear hy hL1
 go_enter Tryz.func101,Tryz.ntmps101
 go_wp2
 go_region_with (first
  | (go_at_call 94;refine (hA.out _ hu0 hv0).mono ?_;rintro e w2 ⟨u,rfl,hu2,hE2⟩;obtain ⟨A2,c2,rfl,hc2⟩:=Un.sh hu2;obtain ⟨p0,p1,p2,p3,p4⟩:=Dh.ext hE2)
  | (go_at_call 44;refine (hM.out _ _ hu2).mono ?_;rintro e w3 ⟨u,rfl,hz3,pE⟩;obtain ⟨b3,A3,L3,c3,rfl⟩:=hz3.sh;have Bu:=(hI0.ext hE2).ext pE;obtain ⟨i0,i1,i2,i3,i4⟩:=id Bu))
 all_goals (
  clear Bu hA hM
  go_wp2
  (try simp only [Exit.inBlock,Exit.then])
  refine bodyPost_ret (v:=.agg #[.bool b3,.slice A3 L3 c3]) (show (results _ _).run _ _=_ from ?_) rfl ⟨_,rfl,hz3.jS ((hI0.ext hE2).ext pE) (dF _ _ _) _ _,((hE0.below hE2).below pE).jS (by simp) _ _⟩
  simp only [results]
  go_simp)
end Go.Proofs.YtnilonnkcbkdmaaGreatDoor
/- Whole numbers: sums. -/
namespace Go.Proofs.YtnilonnkcbkdmaaGreatDoor
open Go.RowKit
set_option linter.unusedVariables false
set_option maxHeartbeats 400000
set_option maxRecDepth 100000 in
set_option maxHeartbeats 4000000 in
theorem ajh (w:World) (b:Bool) (A:Option Addr) (L c n:Nat) (hu:Un w (.slice A L c) n) (vm:Value) (m:Nat) (hv:Un w vm m) (hl:(limbs n).length≤1000000) (hl2:(limbs m).length≤1000000) (y:Int) (hy:(if m≤n then sg b (n-m) else sg (!b) (m-n))=y) :
  Calls Tryz.prog 102 #[.agg #[.bool b,.slice A L c],vm] w fun e w'=>∃ u,e = .returned u∧Zn w' u y∧Ext w w':=by
 obtain ⟨A1,c1,rfl,-⟩:=Un.sh hv
 obtain ⟨L1,hL1⟩:∃ L,(limbs m).length=L:=⟨_,rfl⟩
 obtain ⟨q,hq⟩:∃ q,decide (m≤n)=q:=⟨_,rfl⟩
 obtain ⟨d,hd⟩:∃ d,n-m=d:=⟨_,rfl⟩
 obtain ⟨d2,hd2⟩:∃ d,m-n=d:=⟨_,rfl⟩
 have hA:=Lib.hid (fun W h g=>afW W (.slice A L c) (.slice A1 (limbs m).length c1) n m h g (by omega) q hq d hd)
 have hA2:=Lib.hid (fun W h g=>afW W (.slice A1 (limbs m).length c1) (.slice A L c) m n h g (by omega) _ rfl d2 hd2)
 rw [hL1] at hA hA2 hv ⊢
 rw [hd,hd2] at hy
 have hE0:=((Ext.refl w).alloc (.cells #[.bool b,.slice A L c] 107)).alloc (.cells #[.bool false,.slice none 0 0] 27)
 have hI0:=Ib.new2 w (.cells #[.bool b,.slice A L c] 107) false (.slice none 0 0) 27
 have Dh:=(Ib.new w b (.slice A L c) 107).ext ((Ext.refl _).alloc (.cells #[.bool false,.slice none 0 0] 27))
 have hu0:=hu.below hE0
 have hv0:=hv.below hE0
 obtain ⟨p0,p1,p2,p3,p4⟩:=id Dh
 by_cases h0:m≤n
 · rw [if_pos h0] at hy
   rw [decide_eq_true h0] at hq
   subst hq
   have hM:=Lib.hid (fun W v h=>tH W b v (limbs d) h d (aG _) y hy)
   clear hy hL1 hA2 hd hd2 h0
   go_enter Tryz.func102,Tryz.ntmps102
   go_wp2_with (first
    | (go_at_call 95;refine (hA.out _ hu0 hv0).mono ?_;rintro e w2 ⟨u,rfl,hu2,hE2⟩;obtain ⟨A2,c2,rfl,hc2⟩:=Un.sh hu2;obtain ⟨p0,p1,p2,p3,p4⟩:=Dh.ext hE2)
    | (go_at_call 44;refine (hM.out _ _ hu2).mono ?_;rintro e w3 ⟨u,rfl,hz3,pE⟩;obtain ⟨b3,A3,L3,c3,rfl⟩:=hz3.sh;have Bu:=(hI0.ext hE2).ext pE;obtain ⟨i0,i1,i2,i3,i4⟩:=id Bu))
   (try simp only [Exit.inBlock,Exit.then])
   refine bodyPost_ret (v:=.agg #[.bool b3,.slice A3 L3 c3]) (show (results _ _).run _ _=_ from ?_) rfl ⟨_,rfl,hz3.jS ((hI0.ext hE2).ext pE) (dF _ _ _) _ _,((hE0.below hE2).below pE).jS (by simp) _ _⟩
   simp only [results]
   go_simp
 · rw [if_neg h0] at hy
   rw [decide_eq_false h0] at hq
   subst hq
   have hM:=Lib.hid (fun W v h=>tH W (!b) v (limbs d2) h d2 (aG _) y hy)
   clear hy hL1 hd hd2 h0
   go_enter Tryz.func102,Tryz.ntmps102
   go_upto_region 4 with (go_at_call 95;refine (hA.out _ hu0 hv0).mono ?_;rintro e w2 ⟨u,rfl,hu2,hE2⟩;obtain ⟨A2,c2,rfl,hc2⟩:=Un.sh hu2;obtain ⟨p0,p1,p2,p3,p4⟩:=Dh.ext hE2)
   go_wp2_with (first
    | (go_at_call 95;refine (hA2.out _ (Un.below hv0 hE2) (Un.below hu0 hE2)).mono ?_;rintro e w4 ⟨u,rfl,hu4,wZ⟩;obtain ⟨A4,c4,rfl,hc4⟩:=Un.sh hu4;obtain ⟨p0,p1,p2,p3,p4⟩:=(Dh.ext hE2).ext wZ)
    | (go_at_call 44;refine (hM.out _ _ hu4).mono ?_;rintro e w3 ⟨u,rfl,hz3,pE⟩;obtain ⟨b3,A3,L3,c3,rfl⟩:=hz3.sh;have Bu:=((hI0.ext hE2).ext wZ).ext pE;obtain ⟨i0,i1,i2,i3,i4⟩:=id Bu))
   (try simp only [Exit.inBlock,Exit.then])
   refine bodyPost_ret (v:=.agg #[.bool b3,.slice A3 L3 c3]) (show (results _ _).run _ _=_ from ?_) rfl ⟨_,rfl,hz3.jS (((hI0.ext hE2).ext wZ).ext pE) (dF _ _ _) _ _,(((hE0.below hE2).below wZ).below pE).jS (by simp) _ _⟩
   simp only [results]
   go_simp
theorem EQ (b:Bool) (n m:Nat):sg b (n+m)=sg b n+sg b m:=by cases b<;>simp [sg]<;>omega
theorem CV (b:Bool) (n m:Nat):(if m≤n then sg b (n-m) else sg (!b) (m-n))=sg b n+sg (!b) m:=by
 cases b<;>simp only [sg,Bool.not_false,Bool.not_true,if_true,if_false,Bool.false_eq_true]<;>split<;>omega
set_option maxRecDepth 100000 in
set_option maxHeartbeats 4000000 in
theorem asF (w:World) (va vb:Value) (a b:Int) (ha:Zn w va a) (hb:Zn w vb b) (hl:(limbs a.natAbs).length≤1000000) (hl2:(limbs b.natAbs).length≤1000000) (y:Int) (hy:a+b=y) :
  Calls Tryz.prog 75 #[va,vb] w fun e w'=>∃ u,e = .returned u∧Zn w' u y∧Ext w w':=by
 have hmf:∀ (fn:Fn) (first cap:Array Value) (w:World),(Instr.makeFunc fn first cap).run Tryz.prog w = .ok (.func fn first cap) w:=fun _ _ _ _=>rfl
 obtain ⟨p,A,L,c,n,rfl,hu,hL,hz,-,hza,hzn⟩:=ha.open
 obtain ⟨q,B,K,d,m,rfl,hv,hK,hz2,-,xA,Fz⟩:=hb.open
 rw [hza] at hl
 rw [xA] at hl2
 have hE0:=(((Ext.refl w).alloc (.cells #[.bool p,.slice A L c] 27)).alloc (.cells #[.bool q,.slice B K d] 27)).alloc (.cells #[.bool false,.slice none 0 0] 27)
 have hI0:=Ib.aad w (.cells #[.bool p,.slice A L c] 27) (.cells #[.bool q,.slice B K d] 27) false (.slice none 0 0) 27
 have hu0:=hu.below hE0
 have hv0:=hv.below hE0
 have hG:=Lib.hid (fun W h g (e:sg p (n+m)=y)=>avA W p A L c n h (.slice B K d) m g hl hl2 y e)
 have hS:=Lib.hid (fun W h g (e:(if m≤n then sg p (n-m) else sg (!p) (m-n))=y)=>ajh W p A L c n h (.slice B K d) m g hl hl2 y e)
 rw [hz,hz2] at hy
 have HY:=Lib.hid hy
 clear hl hl2 hza hzn xA Fz hz hz2 hL hK ha hb hy
 cases p<;>cases q
 case' false.false=>have HC:=Lib.hid (hG.out _ hu0 hv0 ((EQ _ _ _).trans HY.out))
 case' true.true=>have HC:=Lib.hid (hG.out _ hu0 hv0 ((EQ _ _ _).trans HY.out))
 case' true.false=>have HC:=Lib.hid (hS.out _ hu0 hv0 ((CV _ _ _).trans HY.out))
 case' false.true=>have HC:=Lib.hid (hS.out _ hu0 hv0 ((CV _ _ _).trans HY.out))
 all_goals (
  clear hG hS
  go_enter Tryz.func75,Tryz.ntmps75
  go_wp2_with (first
   | (go_at_call 101;refine HC.out.mono ?_;rintro e w3 ⟨u,rfl,hz3,pE⟩;obtain ⟨b3,A3,L3,c3,rfl⟩:=hz3.sh;have Bu:=hI0.ext pE;obtain ⟨i0,i1,i2,i3,i4⟩:=id Bu)
   | (go_at_call 102;refine HC.out.mono ?_;rintro e w3 ⟨u,rfl,hz3,pE⟩;obtain ⟨b3,A3,L3,c3,rfl⟩:=hz3.sh;have Bu:=hI0.ext pE;obtain ⟨i0,i1,i2,i3,i4⟩:=id Bu))
  (try simp only [Exit.inBlock,Exit.then])
  refine bodyPost_ret (v:=.agg #[.bool b3,.slice A3 L3 c3]) (show (results _ _).run _ _=_ from ?_) rfl ⟨_,rfl,hz3.jS (hI0.ext pE) (dF _ _ _) _ _,(hE0.below pE).jS (by omega) _ _⟩
  simp only [results]
  go_simp)
end Go.Proofs.YtnilonnkcbkdmaaGreatDoor
/- A cofactor of Euclid's last row. -/
namespace Go.Proofs.YtnilonnkcbkdmaaGreatDoor
open Go.RowKit
set_option linter.all false
set_option maxRecDepth 100000
set_option maxHeartbeats 8000000
theorem MM {A M:Nat}:∀ (pl:List Nat) (n m:Nat) (x y:Int) (rest:List Nat),Cf A M n m x y→quo n m=pl++rest→∃ P Q,rest=quo P Q∧Cf A M P Q (cf pl x y).1 (cf pl x y).2
 | [],n,m,x,y,rest,h,hq=>⟨n,m,hq.symm,h⟩
 | k::pl,n,m,x,y,rest,h,hq=>by
  have hm:m≠0:=by rintro rfl;rw [eY] at hq;cases hq
  rw [fH hm,List.cons_append] at hq
  injection hq with h1 h2
  have:=MM pl m (n%m) y (x-k*y) rest (by rw [← h1];exact (h.step hm).1) h2
  exact this
theorem Gm {a b:Nat} {pl rest:List Nat} (h:quo a b=pl++rest):(cs pl 1 0).1≤max b 1∧(cs pl 1 0).2≤max b 1:=by
 obtain ⟨P,Q,_,hc⟩:=MM pl a b 1 0 rest (Cf.first a (Nat.le_max_left b 1) (Nat.le_max_right b 1)) h
 have e:=Vx pl false 1 0
 rw [show alt false 1=1 from rfl,show alt (!false) 0=0 from rfl] at e
 have h1:=hc.left
 have h2:=hc.right
 rw [e] at h1 h2
 rw [BR] at h1 h2
 exact ⟨h1,h2⟩
theorem qI {b:Nat} (h:Sn b 90):Sn (max b 1) 90:=by
 rcases Nat.le_total b 1 with h1 | h1
 · rw [Nat.max_eq_right h1];exact Sn.small (by decide)
 · rw [Nat.max_eq_left h1];exact h
theorem arJ {a b:Nat} {pl rest:List Nat} (h:quo a b=pl++rest) (hb:Sn b 90):Sn (cs pl 1 0).1 90∧Sn (cs pl 1 0).2 90:=⟨(qI hb).down (Gm h).1,(qI hb).down (Gm h).2⟩
theorem O6 (l:List Nat):(cf l 1 0).1=sg (decide (l.length%2=1)) (cs l 1 0).1:=by
 have e:=Vx l false 1 0
 rw [show alt false 1=1 from rfl,show alt (!false) 0=0 from rfl,Bool.false_xor] at e
 rw [e]
 cases decide (l.length%2=1)
 · rw [rW];rfl
 · rw [FH];rfl
theorem R9 (b:Bool) (A:Option Addr) (n c:Nat):∀ u∈[Value.bool b,.slice A n c],dQ u:=by
 intro u hu k e
 subst e
 simp at hu
theorem O7 {fn:Func} {n:Nat} {ds:List Deferred} {l:List (Nat × Value)} {w:World} {t t2:Tmp} {N:Nat} {v:Value} {vs:List Value} {T ty:TypeId} {d:TypeDesc} (hr:fn.results=#[.tmp t,.cell t2 ty]) (hv:Pl.look l t=some v) (hv2:Pl.look l t2=some (.pointer (some ⟨N,0,none⟩)))
  (hC:Cb w N T vs) (hu:Tryz.prog.underlying ty=some d) (hd:d.isRow=true) (hi:(Tryz.prog.info? ty).map (·.size)=some vs.length):∀ a,Pl.Ag n ds a l→(results fn a.tmps).run Tryz.prog w = .ok (.tuple #[v,.agg vs.toArray]) w:=fun a ha=>by
 have hl:=hC.load ty d hu hd hi
 unfold results
 rw [hr]
 have e1:a.tmps.getD t undef=v:=by rw [Array.getD_eq_getD_getElem?,ha.look t _ hv];rfl
 have e2:a.tmps.getD t2 undef = .pointer (some ⟨N,0,none⟩):=by rw [Array.getD_eq_getD_getElem?,ha.look t2 _ hv2];rfl
 simp only [Instr.loadAt,Instr.sureAddr,Sem.run_bind,Sem.run_pure,Result.andThen_ok] at hl
 simp only [List.mapM_toArray,List.mapM_cons,List.mapM_nil,e1,e2,asAddr,Sem.run_bind,Sem.run_pure,Result.andThen_ok]
 simp [hl,Sem.run_bind,Result.andThen]
theorem Gn (w:World) (va vb:Value) (a b:Nat) (ha:Un w va a) (hb:Un w vb b) (hla:Sn a 90) (hlb:Sn b 90) :
  Calls Tryz.prog 42 #[va,vb] w fun e w'=>∃ g u,e = .returned (.tuple #[g,u])∧Un w' g (Nat.gcd a b)∧Zn w' u (cf (quo a b) 1 0).1∧Ext w w':=by
 obtain ⟨Aa,ca,rfl,-⟩:=Un.sh ha
 obtain ⟨Ab,cb,rfl,-⟩:=Un.sh hb
 have hmin:decide ((3000:Int)≤(if ((limbs b).length:Int)<((limbs a).length:Int) then ((limbs b).length:Int) else ((limbs a).length:Int)))=false:=by unfold Sn at hla hlb;rw [decide_eq_false_iff_not];split<;>omega
 refine Pl.Dn (n:=39) (vs:=[.slice Aa (limbs a).length ca,.slice Ab (limbs b).length cb]) Tryz.func42 rfl (by kernel_rfl) (by simp) ?_
 repeat refine Pl.az ?_
 refine Pl.ay (by kernel_rfl) ?_
 refine Pl.aj trivial rfl rfl rfl rfl rfl ?_
 refine eH rfl rfl rfl rfl (z:=.agg #[.bool false,.slice none 0 0]) (by kernel_rfl) (fun _ _=>trivial) ?_
 intro N5 u1 hB1 hN5 k51
 replace k51:Cb u1 N5 27 [.bool false,.slice none 0 0]:=k51
 refine Pl.ak ?_
 repeat refine Pl.az ?_
 refine Pl.ay (by kernel_rfl) ?_
 refine Pl.ah trivial rfl rfl rfl rfl rfl ?_
 refine bG trivial rfl rfl rfl rfl rfl ?_
 refine Pl.ah trivial rfl rfl rfl rfl rfl ?_
 refine bG trivial rfl rfl rfl rfl rfl ?_
 refine abf trivial rfl rfl rfl rfl rfl rfl ?_
 refine Pl.aI (v:=.bool false) trivial rfl rfl rfl rfl rfl rfl (fun X=>rV hmin X) ?_
 refine Pl.ak ?_
 repeat refine Pl.az ?_
 refine Pl.bD rfl ?_
 repeat refine Pl.az ?_
 refine Pl.bN ?_
 repeat refine Pl.az ?_
 refine Pl.ay (by kernel_rfl) ?_
 refine cO (n:=1) (by decide) rfl rfl rfl rfl rfl (fun _ _=>trivial) ?_
 intro A1 u2 hB2 us1
 have h1:=U.one us1
 obtain ⟨A0,c0,e0,-⟩:=Un.sh h1
 refine eH rfl rfl rfl rfl (z:=.slice none 0 0) (by kernel_rfl) (fun _ _=>trivial) ?_
 intro N6 u3 hB3 hN6 k63
 replace k63:Cb u3 N6 22 [.slice none 0 0]:=k63
 refine eH rfl rfl rfl rfl (z:=.slice none 0 0) (by kernel_rfl) (fun _ _=>trivial) ?_
 intro N7 u4 abg hN7 k74
 replace k74:Cb u4 N7 22 [.slice none 0 0]:=k74
 refine eH rfl rfl rfl rfl (z:=.int .i64 0) (by kernel_rfl) (fun _ _=>trivial) ?_
 intro N8 u5 bH hN8 k85
 replace k85:Cb u5 N8 3 [.int .i64 0]:=k85
 refine Pl.bT rfl rfl rfl rfl rfl rfl (Cb.gK (Cb.ext k63 (abg.below bH)) _ _ _) trivial ?_
 have x6:=Xt.set (Bs:=[N6]) (Cb.ext k63 (abg.below bH)) (cZ _ _ _) (by simp) 0 (.slice A1 1 1)
 have k66:=Cb.set (Cb.ext k63 (abg.below bH)) 0 (.slice A1 1 1)
 generalize u5.setCell ⟨N6,0,none⟩ (.slice A1 1 1)=u6 at *
 have d67:N6<N7:=Nat.lt_of_lt_of_le k63.lt hN7
 have d78:N7<N8:=Nat.lt_of_lt_of_le k74.lt hN8
 have d56:N5<N6:=Nat.lt_of_lt_of_le (Cb.ext k51 hB2).lt hN6
 refine Pl.bT rfl rfl rfl rfl rfl rfl (Cb.gK (x6.cb (Cb.ext k74 bH) (by simp;omega)) none 0 0) trivial ?_
 have x7:=Xt.set (Bs:=[N7]) (x6.cb (Cb.ext k74 bH) (by simp;omega)) (cZ _ _ _) (by simp) 0 (.slice none 0 0)
 have k77:=Cb.set (x6.cb (Cb.ext k74 bH) (by simp;omega)) 0 (.slice none 0 0)
 generalize u6.setCell ⟨N7,0,none⟩ (.slice none 0 0)=u7 at *
 refine Pl.bT rfl rfl rfl rfl rfl rfl (Cb.BO (x7.cb (x6.cb k85 (by simp;omega)) (by simp;omega)) 0) trivial ?_
 have x8:=Xt.set (Bs:=[N8]) (x7.cb (x6.cb k85 (by simp;omega)) (by simp;omega)) (tC _) (by simp) 0 (.int .i64 0)
 have k88:=Cb.set (x7.cb (x6.cb k85 (by simp;omega)) (by simp;omega)) 0 (.int .i64 0)
 generalize u7.setCell ⟨N8,0,none⟩ (.int .i64 0)=u8 at *
 refine Pl.ak ?_
 have x58:Xt [N6,N7,N8] u5 u8:=(x6.mono (by simp)).trans ((x7.mono (by simp)).trans (x8.mono (by simp)))
 have dX:=hB2.below (hB3.below (abg.below bH))
 have k58:=x58.cb (Cb.ext k51 dX) (by simp;omega)
 have k68:=x8.cb (x7.cb k66 (by simp;omega)) (by simp;omega)
 have k78:=x8.cb k77 (by simp;omega)
 have h18:=Un.kp (Un.below h1 (hB3.below (abg.below bH))) x58.kp
 have jD:w.heap.size≤N5:=hN5
 have hE8:=(hB1.below dX).xt x58 (by simp;omega)
 clear x6 x7 x8 k66 k77 k63 k74 k85 k51
 repeat refine Pl.az ?_
 refine Pl.ay (by kernel_rfl) ?_
 refine Pl.ah trivial rfl rfl rfl rfl rfl ?_
 refine eH rfl rfl rfl rfl (z:=.slice none 0 0) (by kernel_rfl) (fun _ _=>trivial) ?_
 intro N9 u9 eP MN k99
 replace k99:Cb u9 N9 22 [.slice none 0 0]:=k99
 refine Pl.bT rfl rfl rfl rfl rfl rfl (Cb.gK k99 Aa (limbs a).length ca) trivial ?_
 have Kb:=Xt.set (Bs:=[N9]) k99 (cZ _ _ _) (by simp) 0 (.slice Aa (limbs a).length ca)
 have arO:=Cb.set k99 0 (.slice Aa (limbs a).length ca)
 have d89:N8<N9:=Nat.lt_of_lt_of_le k88.lt MN
 have ayr:=Kb.cb (Cb.ext k58 eP) (by simp;omega)
 have ays:=Kb.cb (Cb.ext k68 eP) (by simp;omega)
 have ayt:=Kb.cb (Cb.ext k78 eP) (by simp;omega)
 have ayu:=Kb.cb (Cb.ext k88 eP) (by simp;omega)
 have ayv:=(hE8.below eP).xt Kb (by simp;omega)
 have ayw:=Un.kp (Un.below h18 eP) Kb.kp
 generalize u9.setCell ⟨N9,0,none⟩ (.slice Aa (limbs a).length ca)=w3 at *
 refine Pl.ak ?_
 repeat refine Pl.az ?_
 refine Pl.ay (by kernel_rfl) ?_
 refine Pl.oJ trivial rfl rfl rfl rfl rfl rfl ?_
 refine Pl.aj trivial rfl rfl rfl rfl rfl ?_
 refine Pl.ak ?_
 repeat refine Pl.az ?_
 refine Pl.ay (by kernel_rfl) ?_
 refine Pl.ah trivial rfl rfl rfl rfl rfl ?_
 refine Pl.ah trivial rfl rfl rfl rfl rfl ?_
 refine Pl.ah trivial rfl rfl rfl rfl rfl ?_
 refine Pl.aA rfl rfl rfl rfl rfl (fun u X=>Pl.enters Tryz.func49 (by kernel_rfl) rfl u X) ?_
 refine Calls.mono (vU _ _ _ _ _ rfl rfl rfl rfl) ?_
 rintro e w4 ⟨Na,Nb,Ne,Ng,rfl,kna,knb,kne,kng,o1,o2,o3,o4,hB4⟩
 refine ⟨_,rfl,trivial,?_⟩
 refine Pl.ak ?_
 repeat refine Pl.az ?_
 refine Pl.cK ?_
 repeat refine Pl.az ?_
 refine Pl.ML (gf := 79) (lb:=[.pointer (some ⟨Nb,0,none⟩),.pointer (some ⟨Na,0,none⟩),.pointer (some ⟨Ne,0,none⟩),.pointer (some ⟨Ng,0,none⟩)]) rfl (fun u X=>Pl.enters Tryz.func79 (by kernel_rfl) rfl u X) ?_
 intro fn tmps rec hrec hAg
 obtain ⟨D,hD⟩:∃ D,w4.heap.size=D:=⟨_,rfl⟩
 rw [hD]
 have wZ:=ayv.below hB4
 have Vw:w.heap.size≤D:=by rw [← hD];exact wZ.size
 have qo:Ext w4 ((w4.alloc (.deferred (some []))).alloc (.loop rec)):=((Ext.refl w4).alloc _).alloc _
 have hL5:Lq w D rec ((w4.alloc (.deferred (some []))).alloc (.loop rec)):=⟨by rw [← hD];have:=World.alloc_heap_new (w4.alloc (.deferred (some []))) (.loop rec);rwa [World.size_alloc] at this,by rw [← hD];exact (Below.heap_alloc _ _ _ (by simp)).trans (World.alloc_heap_new w4 _),wZ.below qo⟩
 have hs5:((w4.alloc (.deferred (some []))).alloc (.loop rec)).heap.size=D+2:=by rw [World.size_alloc,World.size_alloc,hD]
 generalize (w4.alloc (.deferred (some []))).alloc (.loop rec)=w5 at *
 have hlt3:=arO.lt
 have hng:=kng.lt
 rw [hD] at hng
 have h34:=hB4.size
 rw [hD] at h34
 refine Calls.mono (vT w5 a b _ _ Na Nb Ne Ng 74 [] 73 [.pointer (some ⟨N6,0,none⟩),.pointer (some ⟨N7,0,none⟩),.pointer (some ⟨N8,0,none⟩)] (D+1) [N6,N7,N8,N9,D+1] (fun ql pl pr X=>(∃ v1 v2 vg,Cb X N6 22 [v1]∧Cb X N7 22 [v2]∧Cb X N8 3 [.int .i64 ((pl.length:Nat):Int)]∧Cb X N9 22 [vg]∧Un X v1 (cs pl 1 0).1∧Un X v2 (cs pl 1 0).2∧Un X vg pr.1)∧Cb X N5 27 [.bool false,.slice none 0 0]∧Lq w D rec X) (fun _=>False) (Cb.ext kna qo) (Cb.ext knb qo) (Cb.ext kne qo) (Cb.ext kng qo) ⟨o2,o3,o4⟩ ?J7 (Un.below ha hL5.ext) (Un.below hb hL5.ext) hla hlb ?h0 ?hI (fun u X=>Pl.enters Tryz.func74 (by kernel_rfl) rfl u X) (fun u X=>Pl.enters Tryz.func73 (by kernel_rfl) rfl u X) ?Ga ?AO ?Gb) ?_
 case J7=>intro k hk;simp at hk;rcases hk with rfl | rfl | rfl | rfl | rfl<;>omega
 case h0=>exact ⟨⟨_,_,_,Cb.ext (Cb.ext ays hB4) qo,Cb.ext (Cb.ext ayt hB4) qo,Cb.ext (Cb.ext ayu hB4) qo,Cb.ext (Cb.ext arO hB4) qo,Un.below (Un.below ayw hB4) qo,Un.nil _ _ _,Un.below ha hL5.ext⟩,Cb.ext (Cb.ext ayr hB4) qo,hL5⟩
 case hI =>
  rintro ql pl pr X Y Cs ⟨⟨v1,v2,vg,k6,k7,k8,k9,h1,h2,hg⟩,k5,hL⟩ hX hC
  have nb:∀ N,N<D+2→N≠Na→N≠Nb→N∉Cs:=fun N hN h1 h2 hc=>by rcases hC N hc with h | h | h<;>omega
  exact ⟨⟨v1,v2,vg,hX.cb k6 (nb _ (by omega) (by omega) (by omega)),hX.cb k7 (nb _ (by omega) (by omega) (by omega)),hX.cb k8 (nb _ (by omega) (by omega) (by omega)),hX.cb k9 (nb _ (by omega) (by omega) (by omega)),Un.kp h1 hX.kp,Un.kp h2 hX.kp,Un.kp hg hX.kp⟩,hX.cb k5 (nb _ (by omega) (by omega) (by omega)),hL.xt hX fun k hk=>by rcases hC k hk with h | h | h<;>omega⟩
 case Ga =>
  intro ql pl pr q v X hJ hpre hq hv
  refine (Sa X v).mono fun e X' h=>?_
  obtain ⟨rfl,rfl⟩:=h
  exact ⟨rfl,hJ,Xc.refl _⟩
 case AO =>
  rintro pl l pr f fs n X ⟨⟨v1,v2,vg,k6,k7,k8,k9,h1,h2,hg⟩,k5,hL⟩ ⟨rest,hpre⟩ ht rfl
  have hsh:=lH (a:=a) (hlb.le (show 90≤1000 by decide))
  have Vu:quo a b=pl++(l++rest):=by rw [hpre,List.append_assoc]
  have hsn:=arJ Vu hlb
  have hln:pl.length+l.length≤64000:=by rw [hpre] at hsh;simp at hsh;omega
  refine (O8 X f fs v1 v2 (cs pl 1 0).1 (cs pl 1 0).2 (cs (pl++l) 1 0).1 (cs (pl++l) 1 0).2 N6 N7 N8 _ _ _ _ _ h1 h2 k6 k7 k8 (by omega) (by omega) (by omega) (by omega) (ht X (Ext.refl _)).1 ?_).mono fun e X' h=>?_
  · rw [KQ];exact (ht X (Ext.refl _)).2 v1 v2 _ _ h1 h2 (hsn.1.le (by decide)) (hsn.2.le (by decide))
  · obtain ⟨rfl,x1,x2,g1,g2,m6,m7,m8,hx⟩:=h
    refine ⟨rfl,⟨⟨x1,x2,vg,m6,m7,by rw [List.length_append,Int.natCast_add];exact m8,hx.cb k9 (by simp;omega),g1,g2,Un.kp hg hx.kp⟩,hx.cb k5 (by simp;omega),hL.xt hx (by simp;omega)⟩,Xc.xt (hx.mono (by simp))⟩
 case Gb =>
  rintro ql pr P Q vp vq X ⟨⟨v1,v2,vg,k6,k7,k8,k9,h1,h2,hg⟩,k5,hL⟩ htold abd hsp hsq hp hq
  obtain ⟨Ap,cp,rfl,-⟩:=Un.sh hp
  obtain ⟨Aq,cq,rfl,-⟩:=Un.sh hq
  obtain ⟨Ag,cg,rfl,-⟩:=Un.sh hg
  refine YW.of hrec hL.loop ?_
  refine Pl.Gg (Pl.Ag.round hAg (by decide) _) ?_
  repeat refine Pl.jW ?_
  refine Pl.lI (by kernel_rfl) ?_
  refine eH rfl rfl rfl rfl (z:=.agg #[.slice none 0 0,.slice none 0 0]) (by kernel_rfl) (fun _ _=>trivial) ?_
  intro Np X1 hX1 hNp Yc
  replace Yc:Cb X1 Np 72 [.slice none 0 0,.slice none 0 0]:=Yc
  refine fT (new:=[.slice Ap (limbs P).length cp,.slice Aq (limbs Q).length cq]) Yc rfl rfl rfl rfl rfl rfl (by kernel_rfl) rfl (by simp [Value.oneCell']) trivial ?_
  have kp2:=Cb.put Yc [.slice Ap (limbs P).length cp,.slice Aq (limbs Q).length cq]
  have x2:Xt [Np] X (X1.setRow Np ([.slice Ap (limbs P).length cp,.slice Aq (limbs Q).length cq]:List Value).toArray):=(Xt.ext hX1).trans (Xt.put Yc (rD _ _ _ _ _ _) (by simp) _)
  generalize X1.setRow Np ([.slice Ap (limbs P).length cp,.slice Aq (limbs Q).length cq]:List Value).toArray=X2 at *
  refine Pl.ak ?_
  have hDX:=(Array.getElem?_eq_some_iff.1 hL.loop).1
  have hsz:D+2≤X.heap.size:=hDX
  have hwX:=hL.ext.size
  have hL2:=hL.xt x2 (by simp;omega)
  obtain ⟨hL3,x3⟩:=hL2.put Vw { rec with state:=.busy }
  have kp3:=x3.cb kp2 (by simp;omega)
  have x23:Xt [Np,D+1] X (X2.putObj (D+1) (.loop { rec with state:=.busy })):=(x2.mono (by simp)).trans (x3.mono (by simp))
  have k93:=x23.cb k9 (by simp;omega)
  refine Pl.AR fun a2 ha2=>⟨_,_,ha2,run_beginRound hL2.loop (by rw [hrec]),?_⟩
  generalize X2.putObj (D+1) (.loop { rec with state:=.busy })=X3 at *
  repeat refine Pl.jW ?_
  refine Pl.Gi ?_
  repeat refine Pl.jW ?_
  refine Pl.lI (by kernel_rfl) ?_
  refine bg trivial rfl rfl rfl rfl rfl (Gf _) ?_
  refine Pl.aH trivial rfl rfl rfl rfl rfl (Cb.fO (j:=0) kp3 rfl) ?_
  refine Pl.bT rfl rfl rfl rfl rfl rfl (Cb.gK k93 Ap (limbs P).length cp) trivial ?_
  have x4:=Xt.set (Bs:=[N9]) k93 (cZ _ _ _) (by simp) 0 (.slice Ap (limbs P).length cp)
  have k94:=Cb.set k93 0 (.slice Ap (limbs P).length cp)
  have hL4:=hL3.xt x4 (by simp;omega)
  generalize X3.setCell ⟨N9,0,none⟩ (.slice Ap (limbs P).length cp)=X4 at *
  refine Pl.ak ?_
  refine Pl.tF ?_
  refine Pl.AR fun a3 ha3=>?_
  obtain ⟨v5,X5,hr5,rfl,hL5,x5⟩:=Lq.fin (P:=Tryz.prog) hL4 Vw (by rw [hrec]) (by rw [hrec])
  refine ⟨_,_,hr5,.inl ⟨rfl,?_⟩⟩
  have x25:Xt [Np,D+1,N9] X X5:=(x23.mono (by simp)).trans ((x4.mono (by simp)).trans (x5.mono (by simp)))
  have dn:Np≠N5∧Np≠N6∧Np≠N7∧Np≠N8:=by omega
  exact ⟨⟨⟨v1,v2,_,x25.cb k6 (by simp;omega),x25.cb k7 (by simp;omega),x25.cb k8 (by simp;omega),x5.cb k94 (by simp;omega),Un.kp h1 x25.kp,Un.kp h2 x25.kp,Un.kp hp x25.kp⟩,x25.cb k5 (by simp;omega),hL5⟩,(Xc.xt x25).drop (by simp;omega)⟩
 rintro e w6 ⟨rfl,(⟨P,⟨⟨v1,v2,vg,k6,k7,k8,k9,h1,h2,hg⟩,k5,hL⟩,hPg⟩ | hf)⟩
 rotate_left
 · exact hf.elim
 refine ⟨_,rec,rfl,hL.loop,by rw [hrec];simp,?_⟩
 rw [hrec]
 dsimp only
 obtain ⟨hL7,x7⟩:=hL.put Vw { rec with state:=.exhausted }
 rw [hrec] at hL7 x7
 generalize w6.putObj (D+1) _=w7 at *
 have k57:=x7.cb k5 (by simp;omega)
 have k67:=x7.cb k6 (by simp;omega)
 have k87:=x7.cb k8 (by simp;omega)
 have k97:=x7.cb k9 (by simp;omega)
 have h17:=Un.kp h1 x7.kp
 have hg7:=Un.kp hg x7.kp
 obtain ⟨Af,cf1,rfl,-⟩:=Un.sh h1
 obtain ⟨Ag,cg,rfl,-⟩:=Un.sh hg
 refine Pl.bZ ?_
 have hsh:=lH (a:=a) (hlb.le (show 90≤1000 by decide))
 obtain ⟨sb,hsb⟩:∃ sb,decide ((quo a b).length%2=1)=sb:=⟨_,rfl⟩
 obtain ⟨q1,hq1⟩:∃ q,(cs (quo a b) 1 0).1=q:=⟨_,rfl⟩
 repeat refine Pl.az ?_
 refine Pl.iN (S:=fun X=>Cb X N9 22 [.slice Ag (limbs P).length cg]∧Cb X N8 3 [.int .i64 (((quo a b).length:Nat):Int)]∧Cb X N6 22 [.slice Af (limbs (cs (quo a b) 1 0).1).length cf1]) [(true,0,0),(true,1,1),(true,2,3),(true,3,7),(true,4,15),(false,5,31),(true,6,63),(false,7,127)] fo Pl.O9 (by kernel_rfl) ⟨Cb.ext k97 (Ext.drew (Ext.refl w7)),Cb.ext k87 (Ext.drew (Ext.refl w7)),Cb.ext k67 (Ext.drew (Ext.refl w7))⟩ ?_
 have cB:=Ext.drew (Ext.refl w7)
 generalize w7.drew=w8 at *
 intro oG
 refine Pl.aR oG rfl rfl rfl rfl rfl (fun X hX=>Cb.limbs hX.1) ?_
 refine Pl.aR oG rfl rfl rfl rfl rfl (fun X hX=>Cb.int hX.2.1) ?_
 refine Pl.aI (v:=.int .i64 (((quo a b).length%2:Nat):Int)) oG rfl rfl rfl rfl rfl rfl (fun X=>arP (b:=2) rfl rfl (by decide) (by omega) (by decide) X) ?_
 refine Pl.aI (v:=.bool sb) oG rfl rfl rfl rfl rfl rfl (fun X=>fV (by rw [← hsb,Bool.eq_iff_iff];simp;omega) X) ?_
 refine Pl.aR oG rfl rfl rfl rfl rfl (fun X hX=>Cb.limbs hX.2.2) ?_
 refine Pl.aA rfl rfl rfl rfl rfl (fun u X=>Pl.enters Tryz.func44 (by kernel_rfl) rfl u X) ?_
 refine Calls.mono (tH _ sb _ (limbs (cs (quo a b) 1 0).1) (Un.below h17 cB) _ (aG _) _ rfl) ?_
 rintro e w9 ⟨z,rfl,hz,eP⟩
 have wO:=oG |> fun h=>(⟨Cb.ext h.1 eP,Cb.ext h.2.1 eP,Cb.ext h.2.2 eP⟩:Cb w9 N9 22 [.slice Ag (limbs P).length cg]∧Cb w9 N8 3 [.int .i64 (((quo a b).length:Nat):Int)]∧Cb w9 N6 22 [.slice Af (limbs (cs (quo a b) 1 0).1).length cf1])
 obtain ⟨pz,Az,nz,cz,rfl⟩:=Zn.sh hz
 have alO:=cB.below eP
 have k59:=Cb.ext k57 alO
 refine ⟨_,rfl,wO,?_⟩
 refine Pl.aj wO rfl rfl rfl rfl rfl ?_
 have Kb:Xt [N5] w9 (w9.setRow N5 ([.bool pz,.slice Az nz cz]:List Value).toArray):=Xt.put k59 (R9 _ _ _ _) (by simp) _
 refine fT (new:=[.bool pz,.slice Az nz cz]) k59 rfl rfl rfl rfl rfl rfl (by kernel_rfl) rfl (by simp [Value.oneCell']) ⟨Kb.cb wO.1 (by simp;omega),Kb.cb wO.2.1 (by simp;omega),Kb.cb wO.2.2 (by simp;omega)⟩ ?_
 have arQ:=Cb.put k59 [.bool pz,.slice Az nz cz]
 generalize w9.setRow N5 ([.bool pz,.slice Az nz cz]:List Value).toArray=xN at *
 refine Pl.ak ?_
 have abe:=(hL7.xt (Xt.ext (Bs:=[]) alO) (by simp)).xt Kb (by simp;omega)
 have x11:=Xt.putObj abe.dfr rfl (.deferred none)
 have ayz:=(Kp.ext alO).trans (Kb.kp.trans x11.kp)
 refine Pl.xM abe.dfr (O7 rfl rfl rfl (x11.cb arQ (by simp;omega)) rfl rfl (by kernel_rfl)) ⟨_,_,rfl,by rw [← hPg];exact Un.kp hg7 ayz,?_,abe.ext.xt x11 (by simp;omega)⟩
 rw [O6,hsb]
 exact Zn.kp (Zn.kp hz Kb.kp) x11.kp
end Go.Proofs.YtnilonnkcbkdmaaGreatDoor
