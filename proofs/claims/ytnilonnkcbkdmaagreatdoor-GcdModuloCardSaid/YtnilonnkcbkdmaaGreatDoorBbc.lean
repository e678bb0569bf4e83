/- (stage 7: without IA) Whole numbers: exact quotients, powers. -/
import Derived.Test.YtnilonnkcbkdmaaGreatDoorBas
import Derived.Test.YtnilonnkcbkdmaaGreatDoorBbb
import Derived.Test.YtnilonnkcbkdmaaGreatDoorBai
import Derived.Deep.RegionHeld3

namespace Go.Proofs.YtnilonnkcbkdmaaGreatDoor
open Go.RowKit
set_option linter.all false
set_option maxRecDepth 100000
set_option maxHeartbeats 8000000
theorem ajk (a b:Int):a%b=0↔a.natAbs%b.natAbs=0:=by
 rw [← Int.dvd_iff_emod_eq_zero,← Nat.dvd_iff_mod_eq_zero,Int.natAbs_dvd_natAbs]
theorem AX (w:World) (va vb:Value) (a b:Int) (ha:Zn w va a) (hb:Zn w vb b) (hl:(limbs a.natAbs).length≤1000) (hl2:(limbs b.natAbs).length≤1000) (h0:b≠0) (hr:a%b=0) (x:Int) (hx:a/b=x) :
  Calls Tryz.prog 46 #[va,vb] w fun e w'=>∃ u,e = .returned (.tuple #[u,.bool true])∧Zn w' u x∧Ext w w':=by
 have hab:=ajk a b
 obtain ⟨p,A,L,c,n,rfl,hu,hL,hz,-,hza,hzn⟩:=ha.open
 obtain ⟨q,B,K,d,m,rfl,hv,hK,hz2,-,xA,Fz⟩:=hb.open
 rw [hza,xA] at hab
 rw [hza] at hl
 rw [xA] at hl2
 have hR:n%m=0:=hab.1 hr
 have hm0:m≠0:=by omega
 have k1:=(Mh p q n m hm0 (.inr hR)).1
 rw [← hz,← hz2,hx] at k1
 have hE0:=(((Ext.refl w).alloc (.cells #[.bool p,.slice A L c] 27)).alloc (.cells #[.bool q,.slice B K d] 27)).alloc (.cells #[.bool false,.slice none 0 0] 27)
 have hI0:=Ib.aad w (.cells #[.bool p,.slice A L c] 27) (.cells #[.bool q,.slice B K d] 27) false (.slice none 0 0) 27
 have Dh:=(Ib.new w p (.slice A L c) 27).ext (((Ext.refl _).alloc (.cells #[.bool q,.slice B K d] 27)).alloc (.cells #[.bool false,.slice none 0 0] 27))
 have qj:=(Ib.new2 w (.cells #[.bool p,.slice A L c] 27) q (.slice B K d) 27).ext ((Ext.refl _).alloc (.cells #[.bool false,.slice none 0 0] 27))
 obtain ⟨Q,hQ⟩:∃ Q,n/m=Q:=⟨_,rfl⟩
 have hD:=Lib.hid (qh _ (.slice A L c) (.slice B K d) n m Q 0 (hu.below hE0) (hv.below hE0) hl hl2 hm0 hQ hR)
 rw [hQ] at k1
 have hM1:=Lib.hid (fun W v (h:Un W v Q)=>tH W (!(p==q)) v (limbs Q) h Q (aG _) x k1)
 have HL0:Hid ((limbs 0).length=0):=by show _=_;rw [bf];rfl
 clear hl hl2 hza hzn xA Fz hz hz2 hL hK ha hb hu hv h0 hab hR hr hm0 hQ k1 hx
 unfold Dv at hD
 go_enter Tryz.func46,Tryz.ntmps46
 go_wp2_with (first
  | (go_at_call 58;refine hD.out.mono ?_;rintro e w2 ⟨⟨vq,vr,rfl,hvq,hvr⟩,hE2⟩;obtain ⟨A2,c2,rfl,-⟩:=Un.sh hvq;obtain ⟨A3,c3,rfl,-⟩:=Un.sh hvr;rw [HL0.out] at hvr ⊢;obtain ⟨p0,p1,p2,p3,p4⟩:=Dh.ext hE2;obtain ⟨q0,q1,q2,q3,q4⟩:=qj.ext hE2)
  | (go_at_call 44;refine (hM1.out _ _ hvq).mono ?_;rintro e w3 ⟨u,rfl,hz3,pE⟩;obtain ⟨b3,A4,L3,c4,rfl⟩:=hz3.sh;have Bu:=(hI0.ext hE2).ext pE;obtain ⟨i0,i1,i2,i3,i4⟩:=id Bu))
 (try simp only [Exit.inBlock,Exit.then])
 refine bodyPost_ret (v:=.tuple #[.agg #[.bool b3,.slice A4 L3 c4],.bool true]) (show (results _ _).run _ _=_ from ?_) rfl ⟨_,rfl,hz3.jS Bu (dF _ _ _) _ _,((hE0.below hE2).below pE).jS (by omega) _ _⟩
 simp only [results]
 go_simp
end Go.Proofs.YtnilonnkcbkdmaaGreatDoor
/- Whole numbers: differences. -/
namespace Go.Proofs.YtnilonnkcbkdmaaGreatDoor
open Go.RowKit
set_option linter.unusedVariables false
set_option maxHeartbeats 400000
set_option maxRecDepth 100000 in
set_option maxHeartbeats 8000000 in
theorem abq (w:World) (va vb:Value) (a b:Int) (ha:Zn w va a) (hb:Zn w vb b) (hl:(limbs a.natAbs).length≤1000000) (hl2:(limbs b.natAbs).length≤1000000) (y:Int) (hy:a-b=y) :
  Calls Tryz.prog 43 #[va,vb] w fun e w'=>∃ u,e = .returned u∧Zn w' u y∧Ext w w':=by
 have hN:=Lib.hid (fun W h=>aAV W vb b h (-b) rfl)
 have hA:=Lib.hid (fun W u h (g:Zn W u (-b))=>asF W va u a (-b) h g hl (by rw [Int.natAbs_neg];exact hl2) y (by rw [← Int.sub_eq_add_neg];exact hy))
 have ha':=ha
 have hb':=hb
 obtain ⟨p,A,L,c,n,rfl,hu,hL,hz,-,hza,hzn⟩:=ha.open
 obtain ⟨q,B,K,d,m,rfl,hv,hK,hz2,-,xA,Fz⟩:=hb.open
 have hE0:=((((Ext.refl w).alloc (.cells #[.bool p,.slice A L c] 27)).alloc (.cells #[.bool q,.slice B K d] 27)).alloc (.cells #[.bool false,.slice none 0 0] 27)).drew
 have hI0:=(Ib.aad w (.cells #[.bool p,.slice A L c] 27) (.cells #[.bool q,.slice B K d] 27) false (.slice none 0 0) 27).ext (Ext.refl _).drew
 have Dh:=(Ib.new w p (.slice A L c) 27).ext ((((Ext.refl _).alloc (.cells #[.bool q,.slice B K d] 27)).alloc (.cells #[.bool false,.slice none 0 0] 27)).drew)
 have qj:=(Ib.new2 w (.cells #[.bool p,.slice A L c] 27) q (.slice B K d) 27).ext (((Ext.refl _).alloc (.cells #[.bool false,.slice none 0 0] 27)).drew)
 have hS0:(w.heap.size+1+1<(((w.alloc (.cells #[.bool p,.slice A L c] 27)).alloc (.cells #[.bool q,.slice B K d] 27)).alloc (.cells #[.bool false,.slice none 0 0] 27)).drew.heap.size∧(((w.alloc (.cells #[.bool p,.slice A L c] 27)).alloc (.cells #[.bool q,.slice B K d] 27)).alloc (.cells #[.bool false,.slice none 0 0] 27)).drew.cell? ⟨w.heap.size,0,none⟩=some (.bool p)∧(((w.alloc (.cells #[.bool p,.slice A L c] 27)).alloc (.cells #[.bool q,.slice B K d] 27)).alloc (.cells #[.bool false,.slice none 0 0] 27)).drew.cell? ⟨w.heap.size,1,none⟩=some (.slice A L c)∧(((w.alloc (.cells #[.bool p,.slice A L c] 27)).alloc (.cells #[.bool q,.slice B K d] 27)).alloc (.cells #[.bool false,.slice none 0 0] 27)).drew.cell? ⟨w.heap.size+1,0,none⟩=some (.bool q)∧(((w.alloc (.cells #[.bool p,.slice A L c] 27)).alloc (.cells #[.bool q,.slice B K d] 27)).alloc (.cells #[.bool false,.slice none 0 0] 27)).drew.cell? ⟨w.heap.size+1,1,none⟩=some (.slice B K d))∧Ext w (((w.alloc (.cells #[.bool p,.slice A L c] 27)).alloc (.cells #[.bool q,.slice B K d] 27)).alloc (.cells #[.bool false,.slice none 0 0] 27)).drew:=⟨⟨by simp,Dh.2.1,Dh.2.2.1,qj.2.1,qj.2.2.1⟩,hE0⟩
 have ha0:=ha'.below hE0
 have hb0:=hb'.below hE0
 clear hl hl2 hza hzn xA Fz hz hz2 hL hK ha hb hy Dh qj ha' hb'
 go_enter Tryz.func43,Tryz.ntmps43
 go_wp2
 go_region_held3 (fun X=>(w.heap.size+1+1<X.heap.size∧X.cell? ⟨w.heap.size,0,none⟩=some (.bool p)∧X.cell? ⟨w.heap.size,1,none⟩=some (.slice A L c)∧X.cell? ⟨w.heap.size+1,0,none⟩=some (.bool q)∧X.cell? ⟨w.heap.size+1,1,none⟩=some (.slice B K d))∧Ext w X)
  (first
   | exact hS0
   | exact afX (by assumption) (by assumption)
   | exact afY (by assumption))
  (first
   | (go_at_call 76;((with_reducible refine (hN.out _ hb0).mono ?_);rintro e w2 ⟨u,rfl,hz2,hE2⟩;obtain ⟨b2,A2,L2,c2,rfl⟩:=hz2.sh))
   | (go_at_call 75;((with_reducible refine (hA.out _ _ (ha0.below hE2) hz2).mono ?_);rintro e w3 ⟨u,rfl,hz3,pE⟩;obtain ⟨b3,A3,L3,c3,rfl⟩:=hz3.sh;have Bu:=(hI0.ext hE2).ext pE;obtain ⟨i0,i1,i2,i3,i4⟩:=id Bu)))
 clear hN hA
 clear Bu
 go_wp2
 (try simp only [Exit.inBlock,Exit.then])
 refine bodyPost_ret (v:=.agg #[.bool b3,.slice A3 L3 c3]) (show (results _ _).run _ _=_ from ?_) rfl ⟨_,rfl,hz3.jS ((hI0.ext hE2).ext pE) (dF _ _ _) _ _,((hE0.below hE2).below pE).jS (by omega) _ _⟩
 simp only [results]
 go_simp
end Go.Proofs.YtnilonnkcbkdmaaGreatDoor
/- Both cofactors. -/
namespace Go.Proofs.YtnilonnkcbkdmaaGreatDoor
open Go.RowKit
set_option linter.all false
set_option maxRecDepth 100000
set_option maxHeartbeats 8000000
namespace EGE
set_option linter.all false
set_option maxRecDepth 100000
set_option maxHeartbeats 8000000
theorem ayB (u:Array Value) (X:World):(callFunc 41 u).run Tryz.prog X = .ok (.enter 41 u) X:=Pl.enters Tryz.func41 (by kernel_rfl) rfl u X
theorem ayC (u:Array Value) (X:World):(callFunc 42 u).run Tryz.prog X = .ok (.enter 42 u) X:=Pl.enters Tryz.func42 (by kernel_rfl) rfl u X
theorem abj (u:Array Value) (X:World):(callFunc 43 u).run Tryz.prog X = .ok (.enter 43 u) X:=Pl.enters Tryz.func43 (by kernel_rfl) rfl u X
theorem oC (u:Array Value) (X:World):(callFunc 44 u).run Tryz.prog X = .ok (.enter 44 u) X:=Pl.enters Tryz.func44 (by kernel_rfl) rfl u X
theorem ahG (u:Array Value) (X:World):(callFunc 45 u).run Tryz.prog X = .ok (.enter 45 u) X:=Pl.enters Tryz.func45 (by kernel_rfl) rfl u X
theorem alP (u:Array Value) (X:World):(callFunc 46 u).run Tryz.prog X = .ok (.enter 46 u) X:=Pl.enters Tryz.func46 (by kernel_rfl) rfl u X
end EGE
open EGE
theorem iO (w:World) (v:Value) (n:Nat) (h:Un w v n):Calls Tryz.prog 44 #[.bool false,v] w fun e w'=>∃ u,e = .returned u∧Zn w' u (n:Int)∧Ext w w' :=
 tH w false v (limbs n) h n (aG _) (n:Int) (rW n)
theorem T2.un {w w':World} (T2:∀ v z,Zn w v z→Zn w' v z) {v:Value} {n:Nat} (h:Un w v n):Un w' v n:=by
 obtain ⟨A,c,rfl,-⟩:=Un.sh h
 have hz:Zn w (.agg #[.bool false,.slice A (limbs n).length c]) (n:Int):=⟨A,c,by simp,by simpa using h⟩
 have:=Zn.mag (T2 _ _ hz)
 simpa using this
section
variable {L:List Oper} {S:World→Prop} {K:List (Nat × Value)→World→Prop} {i m:Nat} {o:Oper} {x y:Operand} {r:List (Bool × Nat × Nat)} {l:List (Nat × Value)} {w:World} {N n0 c0 n c:Nat} {b0 b:Bool} {A0 A:Option Addr}
theorem abk (ho:Pl.nth L i=some o) (hp:o.op = .store 27 x y) (hd:o.dst=none) (hg:o.guard=none) (hx:Pl.ig l x=some (.pointer (some ⟨N,0,none⟩))) (hy:Pl.ig l y=some (.agg #[.bool b,.slice A n c]))
  (hI:Ib w N b0 (.slice A0 n0 c0)) (hS:∀ Y,(∀ M b m,M≠N→Ib w M b m→Ib Y M b m)→S Y)
  (h:∀ w',(∀ w0,Ext w0 w→w0.heap.size≤N→Ext w0 w')→(∀ v z,Zn w v z→Zn w' v z)→(∀ M b m,M≠N→Ib w M b m→Ib w' M b m)→Ib w' N b (.slice A n c)→Pl.gY Tryz.prog L S K r l w'):Pl.gY Tryz.prog L S K ((false,i,m)::r) l w:=by
 obtain ⟨r1,I1⟩:=Gp hI b A n c
 have T1:∀ w0,Ext w0 w→w0.heap.size≤N→Ext w0 ((w.setCell ⟨N,0,none⟩ (.bool b)).setCell ⟨N,1,none⟩ (.slice A n c)):=fun w0 h hN=>h.jS hN _ _
 have T3:∀ M b' m',M≠N→Ib w M b' m'→Ib ((w.setCell ⟨N,0,none⟩ (.bool b)).setCell ⟨N,1,none⟩ (.slice A n c)) M b' m':=fun M b m hne hM=>hM.other hne _ _
 exact Pl.bT ho hp hd (by rw [hg];rfl) hx hy r1 (hS _ T3) (h _ T1 (fun v z hz=>hz.jS hI (dF _ _ _) _ _) T3 I1)
end
theorem abl (a b:Int):∀ (l:List Nat) (x y s t:Int),(cf l x y).1*a+(cf l s t).1*b=(cf l (x*a+s*b) (y*a+t*b)).1∧(cf l x y).2*a+(cf l s t).2*b=(cf l (x*a+s*b) (y*a+t*b)).2
 | [],x,y,s,t=>⟨rfl,rfl⟩
 | k::l,x,y,s,t=>by
  have h:=abl a b l y (x-k*y) t (s-k*t)
  have e:(x-k*y)*a+(s-k*t)*b=(x*a+s*b)-k*(y*a+t*b):=by grind
  rw [e] at h
  exact h
theorem ahH (a b:Nat):(cf (quo a b) (a:Int) (b:Int)).1=(Nat.gcd a b:Nat):=by
 induction b using Nat.strongRecOn generalizing a with
 | ind b ih =>
  by_cases h:b=0
  · subst h;rw [eY,Nat.gcd_zero_right];rfl
  · rw [fH h]
    have e:((a:Int)-((a/b:Nat):Int)*(b:Int))=((a%b:Nat):Int):=by
     have:=Nat.div_add_mod a b
     have h2:((b*(a/b)+a%b:Nat):Int)=(a:Int):=by rw [this]
     rw [Int.natCast_add,Int.natCast_mul,Int.mul_comm] at h2
     omega
    show (cf (quo b (a%b)) (b:Int) ((a:Int)-((a/b:Nat):Int)*(b:Int))).1=_
    rw [e,ih (a%b) (Nat.mod_lt _ (Nat.pos_of_ne_zero h)) b,Vy]
theorem bez (a b:Nat):(cf (quo a b) 1 0).1*(a:Int)+(cf (quo a b) 0 1).1*(b:Int)=(Nat.gcd a b:Nat):=by
 have h:=(abl (a:Int) (b:Int) (quo a b) 1 0 0 1).1
 rw [h,← ahH a b]
 congr 2<;>simp
theorem yR (a b:Nat):(((Nat.gcd a b:Nat):Int)-(cf (quo a b) 1 0).1*(a:Int))=(cf (quo a b) 0 1).1*(b:Int):=by have:=bez a b;omega
theorem Gq {a b:Nat} (hb:Sn b 90):Sz (cf (quo a b) 1 0).1 90:=by
 have h:=Gm (a:=a) (b:=b) (pl:=quo a b) (rest:=[]) (by simp)
 show (limbs (cf (quo a b) 1 0).1.natAbs).length≤90
 have e:(cf (quo a b) 1 0).1.natAbs=(cs (quo a b) 1 0).1:=by
  rw [O6];cases decide ((quo a b).length%2=1)
  · rw [rW];omega
  · rw [FH];omega
 rw [e]
 exact (qI hb).down h.1
theorem uB {a b:Nat} (ha:Sn a 90):Sz (cf (quo a b) 0 1).1 90:=by
 obtain ⟨P,Q,_,hc⟩:=MM (A:=a) (M:=max a 1) (quo a b) a b 0 1 [] (Cf.second b (Nat.le_max_left a 1) (Nat.le_max_right a 1)) (by simp)
 exact (qI ha).down hc.left
theorem iD {a b:Nat} (ha:Sn a 90) (hb:Sn b 90):Sn (Nat.gcd a b) 90:=by
 rcases Nat.eq_zero_or_pos a with h | h
 · rw [h,Nat.gcd_zero_left];exact hb
 · exact ha.down (Nat.gcd_le_left b h)
theorem FI {n:Nat} {cs:List Code} {l:List (Nat × Value)} {w:World} {fn:Func} {R:Ending→World→Prop} {t t2 t3:Tmp} {v:Value} {N M:Nat} {b b':Bool} {m m':Value} (hr:fn.results=#[.tmp t,.cell t2 27,.cell t3 27]) (hv:Pl.look l t=some v) (hv2:Pl.look l t2=some (.pointer (some ⟨N,0,none⟩))) (hv3:Pl.look l t3=some (.pointer (some ⟨M,0,none⟩)))
  (hI:Ib w N b m) (hJ:Ib w M b' m') (h:R (.returned (.tuple #[v,.agg #[.bool b,m],.agg #[.bool b',m']])) w):Pl.V Tryz.prog (bodyPost Tryz.prog fn R) n [] (.ret::cs) l w:=Pl.BS fun a ha=>by
 refine ⟨ha.defers,_,?_,h⟩
 obtain ⟨h0,h1,h2,h3,h4⟩:=hI
 obtain ⟨g0,g1,g2,g3,g4⟩:=hJ
 unfold results
 rw [hr]
 have e0:a.tmps.getD t undef=v:=by rw [Array.getD_eq_getD_getElem?,ha.look t _ hv];rfl
 have e:a.tmps.getD t2 undef = .pointer (some ⟨N,0,none⟩):=by rw [Array.getD_eq_getD_getElem?,ha.look t2 _ hv2];rfl
 have e':a.tmps.getD t3 undef = .pointer (some ⟨M,0,none⟩):=by rw [Array.getD_eq_getD_getElem?,ha.look t3 _ hv3];rfl
 simp only [List.mapM_toArray,List.mapM_cons,List.mapM_nil,e0,e,e']
 go_simp
theorem xO (w:World) (jm mV:Value) (a b:Nat) (bn:Un w jm a) (bC:Un w mV b) (hla:Sn a 90) (hlb:Sn b 90) (hb0:b=0) :
  Calls Tryz.prog 15 #[jm,mV] w fun e w'=>∃ g u v,e = .returned (.tuple #[g,u,v])∧Un w' g (Nat.gcd a b)∧Zn w' u (cf (quo a b) 1 0).1∧Zn w' v (cf (quo a b) 0 1).1∧Ext w w':=by
 refine Pl.aV (n:=41) (vs:=[jm,mV]) Tryz.func15 rfl (by kernel_rfl) (by simp) ?_
 refine Pl.az ?_
 refine Pl.ay (by kernel_rfl) ?_
 refine Pl.aj trivial rfl rfl rfl rfl rfl ?_
 refine bI rfl rfl rfl rfl (fun _ _=>trivial) ?_
 intro N1 w1 hB1 Gs i_1
 refine bI rfl rfl rfl rfl (fun _ _=>trivial) ?_
 intro N2 w2 hB2 Dp i_2
 refine Pl.ak ?_
 refine Pl.az ?_
 refine Pl.az ?_
 refine Pl.ay (by kernel_rfl) ?_
 refine Pl.ah trivial rfl rfl rfl rfl rfl ?_
 obtain ⟨Ke,Kg,rfl,-⟩:=Un.sh bC
 refine bG trivial rfl rfl rfl rfl rfl ?_
 refine Pl.aI (v:=(.bool true)) trivial rfl rfl rfl rfl rfl rfl (fun X=>fV (dN.trans (decide_eq_true hb0)) X) ?_
 refine Pl.ak ?_
 refine Pl.dh rfl ?_
 refine Pl.az ?_
 refine Pl.ay (by kernel_rfl) ?_
 refine Pl.ah trivial rfl rfl rfl rfl rfl ?_
 refine Pl.aA rfl rfl rfl rfl rfl ayB ?_
 refine Calls.mono (zof _ 1 (by decide) (by decide)) ?_
 rintro e w3 ⟨kH,rfl,kZ,hB3⟩
 refine ⟨_,rfl,trivial,?_⟩
 refine Pl.dV (v:=.agg #[.bool false,.slice none 0 0]) trivial rfl rfl rfl (fun ρ hρ X _=>by simp [go_sem]) ?_
 refine Pl.aj trivial rfl rfl rfl rfl rfl ?_
 obtain ⟨arR,MQ,arS,Gt,rfl⟩:=Zn.sh kZ
 have alQ:=Ib.ext i_1 (Ext.below hB2 hB3)
 refine iP rfl rfl rfl rfl rfl rfl alQ (fun _ _=>trivial) ?_
 have alR:=Ib.ext i_2 hB3
 intro w4 abm alS abn I_4
 have hB4:=abm _ (Ext.below hB1 (Ext.below hB2 hB3)) (Nat.le_trans (Below.size (Ext.refl w)) Gs)
 have alT:=abn _ _ _ (Nat.ne_of_gt (Nat.lt_of_lt_of_le (Ib.ext i_1 (Ext.refl w1)).1 Dp)) alR
 have ahI:=alS _ _ kZ
 refine iP rfl rfl rfl rfl rfl rfl alT (fun _ _=>trivial) ?_
 intro w5 MR abo Pd I_5
 have bH:=MR _ hB4 (Nat.le_trans (Below.size hB1) Dp)
 have vV:=abo _ _ ahI
 have MS:=Pd _ _ _ (Nat.ne_of_lt (Nat.lt_of_lt_of_le (Ib.ext i_1 (Ext.refl w1)).1 Dp)) I_4
 refine Pl.ak ?_
 refine FI rfl rfl rfl rfl MS I_5 ?_
 have lX:=Un.below bn bH
 exact ⟨_,_,_,rfl,by rw [hb0,Nat.gcd_zero_right];exact lX,by rw [hb0,eY];exact vV,by rw [hb0,eY];exact (Zn.zero _ _ _),bH⟩
theorem tK (w:World) (jm mV:Value) (a b:Nat) (bn:Un w jm a) (bC:Un w mV b) (hla:Sn a 90) (hlb:Sn b 90) (hb0:b≠0) :
  Calls Tryz.prog 15 #[jm,mV] w fun e w'=>∃ g u v,e = .returned (.tuple #[g,u,v])∧Un w' g (Nat.gcd a b)∧Zn w' u (cf (quo a b) 1 0).1∧Zn w' v (cf (quo a b) 0 1).1∧Ext w w':=by
 refine Pl.aV (n:=41) (vs:=[jm,mV]) Tryz.func15 rfl (by kernel_rfl) (by simp) ?_
 refine Pl.az ?_
 refine Pl.ay (by kernel_rfl) ?_
 refine Pl.aj trivial rfl rfl rfl rfl rfl ?_
 refine bI rfl rfl rfl rfl (fun _ _=>trivial) ?_
 intro N1 w1 hB1 Gs i_1
 refine bI rfl rfl rfl rfl (fun _ _=>trivial) ?_
 intro N2 w2 hB2 Dp i_2
 refine Pl.ak ?_
 refine Pl.az ?_
 refine Pl.az ?_
 refine Pl.ay (by kernel_rfl) ?_
 refine Pl.ah trivial rfl rfl rfl rfl rfl ?_
 obtain ⟨Ke,Kg,rfl,-⟩:=Un.sh bC
 refine bG trivial rfl rfl rfl rfl rfl ?_
 refine Pl.aI (v:=(.bool false)) trivial rfl rfl rfl rfl rfl rfl (fun X=>fV (dN.trans (decide_eq_false hb0)) X) ?_
 refine Pl.ak ?_
 refine Pl.bD rfl ?_
 refine Pl.bN ?_
 refine Pl.az ?_
 refine Pl.ay (by kernel_rfl) ?_
 refine Pl.ah trivial rfl rfl rfl rfl rfl ?_
 refine Pl.ah trivial rfl rfl rfl rfl rfl ?_
 have MU:=Un.below bn (Ext.below hB1 hB2)
 have Sb:=Un.below bC (Ext.below hB1 hB2)
 refine Pl.aA rfl rfl rfl rfl rfl ayC ?_
 refine Calls.mono (Gn _ _ _ a b MU Sb hla hlb) ?_
 rintro e w3 ⟨kH,uN,rfl,kZ,lg,hB3⟩
 refine ⟨_,rfl,trivial,?_⟩
 have lK:Sn (Nat.gcd a b) 90:=iD hla hlb
 have iU:Sz (cf (quo a b) 1 0).1 90:=Gq hlb
 refine Pl.ah trivial rfl rfl rfl rfl rfl ?_
 refine Pl.aB trivial rfl rfl rfl rfl rfl rfl ?_
 refine Pl.aB trivial rfl rfl rfl rfl rfl rfl ?_
 refine bI rfl rfl rfl rfl (fun _ _=>trivial) ?_
 intro N7 w4 hB4 Gv i_7
 refine Pl.aj trivial rfl rfl rfl rfl rfl ?_
 obtain ⟨xP,xg,xQ,xh,rfl⟩:=Zn.sh lg
 refine iP rfl rfl rfl rfl rfl rfl i_7 (fun _ _=>trivial) ?_
 intro w5 MR abo Pd I_5
 have bH:=MR _ hB4 (Nat.le_trans (Below.size (Ext.refl w3)) Gv)
 refine Pl.ak ?_
 refine Pl.az ?_
 refine Pl.nK (S:=fun X=>Ext w5 X) fo (Ext.drew (Ext.refl _)) ?_
 generalize w5.drew=w6
 intro aZ
 have lJ:=aZ
 refine Pl.lm 1 255 (fun l' w'=>∃ (KR:Nat) (abp:Value),l'=[(1,.slice Ke (limbs b).length Kg),(4,.slice none 0 0),(5,.pointer (some ⟨N1,0,none⟩)),(6,.pointer (some ⟨N2,0,none⟩)),(7,kH),(8,.pointer (some ⟨N7,0,none⟩)),(9,.pointer (some ⟨KR,0,none⟩)),(30,abp)]∧Ext w5 w'∧w5.heap.size≤KR∧Ib w' KR false (.slice none 0 0)∧Zn w' abp ((((Nat.gcd a b):Nat):Int)-((cf (quo a b) 1 0).1*((a:Nat):Int)))) ?_ ?_
 rotate_left
 · intro hK
   refine Pl.aS [(true,0,0),(true,2,1),(true,3,5)] 13 6 Pl.aD (by kernel_rfl) (by kernel_rfl) (by kernel_rfl) ?_
   refine Pl.ah lJ rfl rfl rfl rfl rfl ?_
   refine Pl.aR lJ rfl rfl rfl rfl rfl (fun X hX=>Ib.load (Ib.ext I_5 hX)) ?_
   refine Pl.ah lJ rfl rfl rfl rfl rfl ?_
   refine Pl.ak ?_
   refine Pl.dY [1,7] 5 (by kernel_rfl) (by kernel_rfl) (by kernel_rfl) (Pl.aJ ?_ (Pl.aJ ?_ Pl.aX))
   · have ahK:=Un.below kZ (Ext.below bH aZ)
     refine Pl.aA rfl rfl rfl rfl rfl oC ?_
     refine Calls.mono (iO _ _ (Nat.gcd a b) ahK) ?_
     rintro e w7 ⟨alU,rfl,Kh,bW⟩
     have pF:=Ext.below lJ bW
     refine ⟨_,rfl,pF,?_⟩
     have Fb:Sz (((Nat.gcd a b):Nat):Int) 90:=Sn.sz lK
     refine Pl.ak ?_
     refine Pl.dY [4,7] 4 (by kernel_rfl) (by kernel_rfl) (by kernel_rfl) (Pl.aJ ?_ (Pl.aJ ?_ Pl.aX))
     · have nP:=Un.below MU (Ext.below hB3 (Ext.below bH (Ext.below aZ bW)))
       refine Pl.aA rfl rfl rfl rfl rfl oC ?_
       refine Calls.mono (iO _ _ a nP) ?_
       rintro e w8 ⟨Pe,rfl,wQ,cB⟩
       have oG:=Ext.below pF cB
       refine ⟨_,rfl,oG,?_⟩
       have qp:Sz ((a:Nat):Int) 90:=Sn.sz hla
       refine Pl.ak ?_
       refine Pl.dY [5,7] 3 (by kernel_rfl) (by kernel_rfl) (by kernel_rfl) (Pl.aJ ?_ (Pl.aJ ?_ Pl.aX))
       · have nL:=Zn.below lg (Ext.below bH (Ext.below aZ (Ext.below bW cB)))
         refine Pl.aA rfl rfl rfl rfl rfl ahG ?_
         refine Calls.mono (Ye _ _ _ ((cf (quo a b) 1 0).1) ((a:Nat):Int) nL wQ (Sz.le iU (by decide)) (Sz.le qp (by decide)) _ rfl) ?_
         rintro e w9 ⟨nZ,rfl,rX,eP⟩
         have wO:=Ext.below oG eP
         refine ⟨_,rfl,wO,?_⟩
         have iH:Sz ((cf (quo a b) 1 0).1*((a:Nat):Int)) 180:=Sz.mul iU qp (by decide)
         refine Pl.ak ?_
         refine Pl.dY [6,7] 2 (by kernel_rfl) (by kernel_rfl) (by kernel_rfl) (Pl.aJ ?_ (Pl.aJ ?_ Pl.aX))
         · have ahL:=Zn.below Kh (Ext.below cB eP)
           refine Pl.aA rfl rfl rfl rfl rfl abj ?_
           refine Calls.mono (abq _ _ _ (((Nat.gcd a b):Nat):Int) ((cf (quo a b) 1 0).1*((a:Nat):Int)) ahL rX (Sz.le Fb (by decide)) (Sz.le iH (by decide)) _ rfl) ?_
           rintro e xN ⟨zP,rfl,pI,bY⟩
           have fP:=Ext.below wO bY
           refine ⟨_,rfl,fP,?_⟩
           have lY:Sz ((((Nat.gcd a b):Nat):Int)-((cf (quo a b) 1 0).1*((a:Nat):Int))) 181:=Sz.sub Fb iH (by decide) (by decide)
           refine Pl.ak ?_
           refine Pl.aS [(false,7,127)] 255 1 Pl.aD (by kernel_rfl) (by kernel_rfl) (by kernel_rfl) ?_
           refine bI rfl rfl rfl rfl (fun _ k=>Ext.below fP k) ?_
           intro Sc AU bX Pf Sd
           have jN:=Ext.below fP bX
           refine Pl.ak ?_
           have Yf:=Zn.below pI bX
           exact Pl.bK [(1,.slice Ke (limbs b).length Kg),(4,.slice none 0 0),(5,.pointer (some ⟨N1,0,none⟩)),(6,.pointer (some ⟨N2,0,none⟩)),(7,kH),(8,.pointer (some ⟨N7,0,none⟩)),(9,.pointer (some ⟨Sc,0,none⟩)),(30,zP)] (Pl.aa rfl (Pl.aa rfl (Pl.aa rfl (Pl.aa rfl (Pl.aa rfl (Pl.aa rfl (Pl.aa rfl (Pl.aa rfl Pl.aK)))))))) (hK _ _ ⟨Sc,zP,rfl,(Ext.below aZ (Ext.below bW (Ext.below cB (Ext.below eP (Ext.below bY bX))))),(Nat.le_trans (Below.size (Ext.below aZ (Ext.below bW (Ext.below cB (Ext.below eP bY))))) Pf),Sd,Yf⟩)
         · refine bI rfl rfl rfl rfl (fun _ k=>Ext.below wO k) ?_
           intro N14 xN bY abr alV
           have fP:=Ext.below wO bY
           refine Pl.ak ?_
           refine Pl.aS [(false,6,191)] 255 1 Pl.aD (by kernel_rfl) (by kernel_rfl) (by kernel_rfl) ?_
           have xR:=Zn.below Kh (Ext.below cB (Ext.below eP bY))
           have Yg:=Zn.below rX bY
           refine Pl.aA rfl rfl rfl rfl rfl abj ?_
           refine Calls.mono (abq _ _ _ (((Nat.gcd a b):Nat):Int) ((cf (quo a b) 1 0).1*((a:Nat):Int)) xR Yg (Sz.le Fb (by decide)) (Sz.le iH (by decide)) _ rfl) ?_
           rintro e AU ⟨wR,rfl,qQ,bX⟩
           have jN:=Ext.below fP bX
           refine ⟨_,rfl,jN,?_⟩
           have qR:Sz ((((Nat.gcd a b):Nat):Int)-((cf (quo a b) 1 0).1*((a:Nat):Int))) 181:=Sz.sub Fb iH (by decide) (by decide)
           refine Pl.ak ?_
           have abt:=Ib.ext alV bX
           exact Pl.bK [(1,.slice Ke (limbs b).length Kg),(4,.slice none 0 0),(5,.pointer (some ⟨N1,0,none⟩)),(6,.pointer (some ⟨N2,0,none⟩)),(7,kH),(8,.pointer (some ⟨N7,0,none⟩)),(9,.pointer (some ⟨N14,0,none⟩)),(30,wR)] (Pl.aa rfl (Pl.aa rfl (Pl.aa rfl (Pl.aa rfl (Pl.aa rfl (Pl.aa rfl (Pl.aa rfl (Pl.aa rfl Pl.aK)))))))) (hK _ _ ⟨N14,wR,rfl,(Ext.below aZ (Ext.below bW (Ext.below cB (Ext.below eP (Ext.below bY bX))))),(Nat.le_trans (Below.size (Ext.below aZ (Ext.below bW (Ext.below cB eP)))) abr),abt,qQ⟩)
       · refine bI rfl rfl rfl rfl (fun _ k=>Ext.below oG k) ?_
         intro N12 w9 eP Gw Si
         have wO:=Ext.below oG eP
         refine Pl.ak ?_
         refine Pl.aS [(false,5,159),(false,6,191)] 255 1 Pl.aD (by kernel_rfl) (by kernel_rfl) (by kernel_rfl) ?_
         have tL:=Zn.below lg (Ext.below bH (Ext.below aZ (Ext.below bW (Ext.below cB eP))))
         have abv:=Zn.below wQ eP
         refine Pl.aA rfl rfl rfl rfl rfl ahG ?_
         refine Calls.mono (Ye _ _ _ ((cf (quo a b) 1 0).1) ((a:Nat):Int) tL abv (Sz.le iU (by decide)) (Sz.le qp (by decide)) _ rfl) ?_
         rintro e xN ⟨zP,rfl,pI,bY⟩
         have fP:=Ext.below wO bY
         refine ⟨_,rfl,fP,?_⟩
         have lY:Sz ((cf (quo a b) 1 0).1*((a:Nat):Int)) 180:=Sz.mul iU qp (by decide)
         have xR:=Zn.below Kh (Ext.below cB (Ext.below eP bY))
         refine Pl.aA rfl rfl rfl rfl rfl abj ?_
         refine Calls.mono (abq _ _ _ (((Nat.gcd a b):Nat):Int) ((cf (quo a b) 1 0).1*((a:Nat):Int)) xR pI (Sz.le Fb (by decide)) (Sz.le lY (by decide)) _ rfl) ?_
         rintro e AU ⟨wR,rfl,qQ,bX⟩
         have jN:=Ext.below fP bX
         refine ⟨_,rfl,jN,?_⟩
         have qR:Sz ((((Nat.gcd a b):Nat):Int)-((cf (quo a b) 1 0).1*((a:Nat):Int))) 181:=Sz.sub Fb lY (by decide) (by decide)
         refine Pl.ak ?_
         have abw:=Ib.ext Si (Ext.below bY bX)
         exact Pl.bK [(1,.slice Ke (limbs b).length Kg),(4,.slice none 0 0),(5,.pointer (some ⟨N1,0,none⟩)),(6,.pointer (some ⟨N2,0,none⟩)),(7,kH),(8,.pointer (some ⟨N7,0,none⟩)),(9,.pointer (some ⟨N12,0,none⟩)),(30,wR)] (Pl.aa rfl (Pl.aa rfl (Pl.aa rfl (Pl.aa rfl (Pl.aa rfl (Pl.aa rfl (Pl.aa rfl (Pl.aa rfl Pl.aK)))))))) (hK _ _ ⟨N12,wR,rfl,(Ext.below aZ (Ext.below bW (Ext.below cB (Ext.below eP (Ext.below bY bX))))),(Nat.le_trans (Below.size (Ext.below aZ (Ext.below bW cB))) Gw),abw,qQ⟩)
     · refine bI rfl rfl rfl rfl (fun _ k=>Ext.below pF k) ?_
       intro MV w8 cB BU MW
       have oG:=Ext.below pF cB
       refine Pl.ak ?_
       refine Pl.aS [(false,4,143),(false,5,159),(false,6,191)] 255 1 Pl.aD (by kernel_rfl) (by kernel_rfl) (by kernel_rfl) ?_
       have Dq:=Un.below MU (Ext.below hB3 (Ext.below bH (Ext.below aZ (Ext.below bW cB))))
       refine Pl.aA rfl rfl rfl rfl rfl oC ?_
       refine Calls.mono (iO _ _ a Dq) ?_
       rintro e w9 ⟨zQ,rfl,qw,eP⟩
       have wO:=Ext.below oG eP
       refine ⟨_,rfl,wO,?_⟩
       have pJ:Sz ((a:Nat):Int) 90:=Sn.sz hla
       have tL:=Zn.below lg (Ext.below bH (Ext.below aZ (Ext.below bW (Ext.below cB eP))))
       refine Pl.aA rfl rfl rfl rfl rfl ahG ?_
       refine Calls.mono (Ye _ _ _ ((cf (quo a b) 1 0).1) ((a:Nat):Int) tL qw (Sz.le iU (by decide)) (Sz.le pJ (by decide)) _ rfl) ?_
       rintro e xN ⟨Gx,rfl,qx,bY⟩
       have fP:=Ext.below wO bY
       refine ⟨_,rfl,fP,?_⟩
       have tN:Sz ((cf (quo a b) 1 0).1*((a:Nat):Int)) 180:=Sz.mul iU pJ (by decide)
       have xR:=Zn.below Kh (Ext.below cB (Ext.below eP bY))
       refine Pl.aA rfl rfl rfl rfl rfl abj ?_
       refine Calls.mono (abq _ _ _ (((Nat.gcd a b):Nat):Int) ((cf (quo a b) 1 0).1*((a:Nat):Int)) xR qx (Sz.le Fb (by decide)) (Sz.le tN (by decide)) _ rfl) ?_
       rintro e AU ⟨tO,rfl,og,bX⟩
       have jN:=Ext.below fP bX
       refine ⟨_,rfl,jN,?_⟩
       have tQ:Sz ((((Nat.gcd a b):Nat):Int)-((cf (quo a b) 1 0).1*((a:Nat):Int))) 181:=Sz.sub Fb tN (by decide) (by decide)
       refine Pl.ak ?_
       have abx:=Ib.ext MW (Ext.below eP (Ext.below bY bX))
       exact Pl.bK [(1,.slice Ke (limbs b).length Kg),(4,.slice none 0 0),(5,.pointer (some ⟨N1,0,none⟩)),(6,.pointer (some ⟨N2,0,none⟩)),(7,kH),(8,.pointer (some ⟨N7,0,none⟩)),(9,.pointer (some ⟨MV,0,none⟩)),(30,tO)] (Pl.aa rfl (Pl.aa rfl (Pl.aa rfl (Pl.aa rfl (Pl.aa rfl (Pl.aa rfl (Pl.aa rfl (Pl.aa rfl Pl.aK)))))))) (hK _ _ ⟨MV,tO,rfl,(Ext.below aZ (Ext.below bW (Ext.below cB (Ext.below eP (Ext.below bY bX))))),(Nat.le_trans (Below.size (Ext.below aZ bW)) BU),abx,og⟩)
   · refine bI rfl rfl rfl rfl (fun _ k=>Ext.below lJ k) ?_
     intro N8 w7 bW MX i_8
     have pF:=Ext.below lJ bW
     refine Pl.ak ?_
     refine Pl.aS [(false,1,141),(false,4,143),(false,5,159),(false,6,191)] 255 1 Pl.aD (by kernel_rfl) (by kernel_rfl) (by kernel_rfl) ?_
     have BV:=Un.below kZ (Ext.below bH (Ext.below aZ bW))
     refine Pl.aA rfl rfl rfl rfl rfl oC ?_
     refine Calls.mono (iO _ _ (Nat.gcd a b) BV) ?_
     rintro e w8 ⟨rY,rfl,kI,cB⟩
     have oG:=Ext.below pF cB
     refine ⟨_,rfl,oG,?_⟩
     have dZ:Sz (((Nat.gcd a b):Nat):Int) 90:=Sn.sz lK
     have Dq:=Un.below MU (Ext.below hB3 (Ext.below bH (Ext.below aZ (Ext.below bW cB))))
     refine Pl.aA rfl rfl rfl rfl rfl oC ?_
     refine Calls.mono (iO _ _ a Dq) ?_
     rintro e w9 ⟨zQ,rfl,qw,eP⟩
     have wO:=Ext.below oG eP
     refine ⟨_,rfl,wO,?_⟩
     have pJ:Sz ((a:Nat):Int) 90:=Sn.sz hla
     have tL:=Zn.below lg (Ext.below bH (Ext.below aZ (Ext.below bW (Ext.below cB eP))))
     refine Pl.aA rfl rfl rfl rfl rfl ahG ?_
     refine Calls.mono (Ye _ _ _ ((cf (quo a b) 1 0).1) ((a:Nat):Int) tL qw (Sz.le iU (by decide)) (Sz.le pJ (by decide)) _ rfl) ?_
     rintro e xN ⟨Gx,rfl,qx,bY⟩
     have fP:=Ext.below wO bY
     refine ⟨_,rfl,fP,?_⟩
     have tN:Sz ((cf (quo a b) 1 0).1*((a:Nat):Int)) 180:=Sz.mul iU pJ (by decide)
     have Yh:=Zn.below kI (Ext.below eP bY)
     refine Pl.aA rfl rfl rfl rfl rfl abj ?_
     refine Calls.mono (abq _ _ _ (((Nat.gcd a b):Nat):Int) ((cf (quo a b) 1 0).1*((a:Nat):Int)) Yh qx (Sz.le dZ (by decide)) (Sz.le tN (by decide)) _ rfl) ?_
     rintro e AU ⟨tO,rfl,og,bX⟩
     have jN:=Ext.below fP bX
     refine ⟨_,rfl,jN,?_⟩
     have tQ:Sz ((((Nat.gcd a b):Nat):Int)-((cf (quo a b) 1 0).1*((a:Nat):Int))) 181:=Sz.sub dZ tN (by decide) (by decide)
     refine Pl.ak ?_
     have ahM:=Ib.ext i_8 (Ext.below cB (Ext.below eP (Ext.below bY bX)))
     exact Pl.bK [(1,.slice Ke (limbs b).length Kg),(4,.slice none 0 0),(5,.pointer (some ⟨N1,0,none⟩)),(6,.pointer (some ⟨N2,0,none⟩)),(7,kH),(8,.pointer (some ⟨N7,0,none⟩)),(9,.pointer (some ⟨N8,0,none⟩)),(30,tO)] (Pl.aa rfl (Pl.aa rfl (Pl.aa rfl (Pl.aa rfl (Pl.aa rfl (Pl.aa rfl (Pl.aa rfl (Pl.aa rfl Pl.aK)))))))) (hK _ _ ⟨N8,tO,rfl,(Ext.below aZ (Ext.below bW (Ext.below cB (Ext.below eP (Ext.below bY bX))))),(Nat.le_trans (Below.size aZ) MX),ahM,og⟩)
 rintro _ ayD ⟨ayE,apX,rfl,Gy,Gz,aby,KS⟩
 have abz:=Gy
 have Fb:Sz (((Nat.gcd a b):Nat):Int) 90:=Sn.sz lK
 have qp:Sz ((a:Nat):Int) 90:=Sn.sz hla
 have iH:Sz ((cf (quo a b) 1 0).1*((a:Nat):Int)) 180:=Sz.mul iU qp (by decide)
 have lY:Sz ((((Nat.gcd a b):Nat):Int)-((cf (quo a b) 1 0).1*((a:Nat):Int))) 181:=Sz.sub Fb iH (by decide) (by decide)
 refine Pl.aS [(false,8,255)] 511 0 Pl.aD (by kernel_rfl) (by kernel_rfl) (by kernel_rfl) ?_
 obtain ⟨apY,apZ,ap0,ap1,rfl⟩:=Zn.sh KS
 refine iP rfl rfl rfl rfl rfl rfl aby (fun _ T=>T _ abz (Nat.le_trans (Below.size (Ext.refl w5)) Gz)) ?_
 intro Sj abA alW ayF arW
 have tT:=abA _ Gy (Nat.le_trans (Below.size (Ext.refl w5)) Gz)
 have aCr:=abA _ abz (Nat.le_trans (Below.size (Ext.refl w5)) Gz)
 have rZ:=alW _ _ KS
 refine Pl.ak ?_
 refine Pl.G_V (by kernel_rfl) ?_
 refine Pl.az ?_
 refine Pl.nK (S:=fun X=>Ext Sj X) fo (Ext.drew (Ext.refl _)) ?_
 generalize Sj.drew=ayG
 intro oh
 have xS:=oh
 refine Pl.lm 2 255 (fun l' w'=>∃ (zw:Nat) (arX:Value),l'=[(4,.slice none 0 0),(5,.pointer (some ⟨N1,0,none⟩)),(6,.pointer (some ⟨N2,0,none⟩)),(7,kH),(8,.pointer (some ⟨N7,0,none⟩)),(10,.pointer (some ⟨zw,0,none⟩)),(36,arX),(37,(.bool true))]∧Ext Sj w'∧Sj.heap.size≤zw∧Ib w' zw false (.slice none 0 0)∧Zn w' arX ((cf (quo a b) 0 1).1)) ?_ ?_
 rotate_left
 · intro hK
   refine Pl.aS [(true,0,0),(true,1,1)] 3 8 Pl.aD (by kernel_rfl) (by kernel_rfl) (by kernel_rfl) ?_
   refine Pl.aR xS rfl rfl rfl rfl rfl (fun X hX=>Ib.load (Ib.ext arW hX)) ?_
   refine Pl.ah xS rfl rfl rfl rfl rfl ?_
   refine Pl.ak ?_
   refine Pl.dY [2,7] 7 (by kernel_rfl) (by kernel_rfl) (by kernel_rfl) (Pl.aJ ?_ (Pl.aJ ?_ Pl.aX))
   · have abB:=Un.below Sb (Ext.below hB3 (Ext.below bH (Ext.below tT oh)))
     refine Pl.aA rfl rfl rfl rfl rfl oC ?_
     refine Calls.mono (iO _ _ b abB) ?_
     rintro e Yi ⟨aCs,rfl,aj6,jo⟩
     have lZ:=Ext.below xS jo
     refine ⟨_,rfl,lZ,?_⟩
     have abC:Sz ((b:Nat):Int) 90:=Sn.sz hlb
     refine Pl.ak ?_
     refine Pl.dY [3,7] 6 (by kernel_rfl) (by kernel_rfl) (by kernel_rfl) (Pl.aJ ?_ (Pl.aJ ?_ Pl.aX))
     · have GG:=Zn.below rZ (Ext.below oh jo)
       refine Pl.aA rfl rfl rfl rfl rfl alP ?_
       refine Calls.mono (AX _ _ _ ((((Nat.gcd a b):Nat):Int)-((cf (quo a b) 1 0).1*((a:Nat):Int))) ((b:Nat):Int) GG aj6 (Sz.le lY (by decide)) (Sz.le abC (by decide)) (by omega) (by rw [yR];exact Int.mul_emod_left _ _) (cf (quo a b) 0 1).1 (by rw [yR];exact Int.mul_ediv_cancel _ (by omega))) ?_
       rintro e MZ ⟨aj7,rfl,arY,jd⟩
       have om:=Ext.below lZ jd
       refine ⟨_,rfl,om,?_⟩
       have arZ:Sz (cf (quo a b) 0 1).1 90:=uB hla
       refine Pl.ak ?_
       refine Pl.aS [(true,4,15),(true,5,31),(true,6,63),(false,7,127)] 255 2 Pl.aD (by kernel_rfl) (by kernel_rfl) (by kernel_rfl) ?_
       refine Pl.ah om rfl rfl rfl rfl rfl ?_
       refine Pl.aB om rfl rfl rfl rfl rfl rfl ?_
       refine Pl.aB om rfl rfl rfl rfl rfl rfl ?_
       refine bI rfl rfl rfl rfl (fun _ k=>Ext.below om k) ?_
       intro N72 alX lN ar0 ayH
       have tV:=Ext.below om lN
       refine Pl.ak ?_
       have Sk:=Zn.below arY lN
       exact Pl.bK [(4,.slice none 0 0),(5,.pointer (some ⟨N1,0,none⟩)),(6,.pointer (some ⟨N2,0,none⟩)),(7,kH),(8,.pointer (some ⟨N7,0,none⟩)),(10,.pointer (some ⟨N72,0,none⟩)),(36,aj7),(37,(.bool true))] (Pl.aa rfl (Pl.aa rfl (Pl.aa rfl (Pl.aa rfl (Pl.aa rfl (Pl.aa rfl (Pl.aa rfl (Pl.aa rfl Pl.aK)))))))) (hK _ _ ⟨N72,aj7,rfl,(Ext.below oh (Ext.below jo (Ext.below jd lN))),(Nat.le_trans (Below.size (Ext.below oh (Ext.below jo jd))) ar0),ayH,Sk⟩)
     · refine bI rfl rfl rfl rfl (fun _ k=>Ext.below lZ k) ?_
       intro N70 MZ jd ar1 ayI
       have om:=Ext.below lZ jd
       refine Pl.ak ?_
       refine Pl.aS [(false,3,135),(true,4,143),(true,5,159),(true,6,191)] 255 2 Pl.aD (by kernel_rfl) (by kernel_rfl) (by kernel_rfl) ?_
       have r9:=Zn.below rZ (Ext.below oh (Ext.below jo jd))
       have Sl:=Zn.below aj6 jd
       refine Pl.aA rfl rfl rfl rfl rfl alP ?_
       refine Calls.mono (AX _ _ _ ((((Nat.gcd a b):Nat):Int)-((cf (quo a b) 1 0).1*((a:Nat):Int))) ((b:Nat):Int) r9 Sl (Sz.le lY (by decide)) (Sz.le abC (by decide)) (by omega) (by rw [yR];exact Int.mul_emod_left _ _) (cf (quo a b) 0 1).1 (by rw [yR];exact Int.mul_ediv_cancel _ (by omega))) ?_
       rintro e alX ⟨abD,rfl,abE,lN⟩
       have tV:=Ext.below om lN
       refine ⟨_,rfl,tV,?_⟩
       have aj8:Sz (cf (quo a b) 0 1).1 90:=uB hla
       refine Pl.ah tV rfl rfl rfl rfl rfl ?_
       refine Pl.aB tV rfl rfl rfl rfl rfl rfl ?_
       refine Pl.aB tV rfl rfl rfl rfl rfl rfl ?_
       refine Pl.ak ?_
       have Yj:=Ib.ext ayI lN
       exact Pl.bK [(4,.slice none 0 0),(5,.pointer (some ⟨N1,0,none⟩)),(6,.pointer (some ⟨N2,0,none⟩)),(7,kH),(8,.pointer (some ⟨N7,0,none⟩)),(10,.pointer (some ⟨N70,0,none⟩)),(36,abD),(37,(.bool true))] (Pl.aa rfl (Pl.aa rfl (Pl.aa rfl (Pl.aa rfl (Pl.aa rfl (Pl.aa rfl (Pl.aa rfl (Pl.aa rfl Pl.aK)))))))) (hK _ _ ⟨N70,abD,rfl,(Ext.below oh (Ext.below jo (Ext.below jd lN))),(Nat.le_trans (Below.size (Ext.below oh jo)) ar1),Yj,abE⟩)
   · refine bI rfl rfl rfl rfl (fun _ k=>Ext.below xS k) ?_
     intro N68 Yi jo ar2 ayJ
     have lZ:=Ext.below xS jo
     refine Pl.ak ?_
     refine Pl.aS [(false,2,131),(false,3,135),(true,4,143),(true,5,159),(true,6,191)] 255 2 Pl.aD (by kernel_rfl) (by kernel_rfl) (by kernel_rfl) ?_
     have abF:=Un.below Sb (Ext.below hB3 (Ext.below bH (Ext.below tT (Ext.below oh jo))))
     refine Pl.aA rfl rfl rfl rfl rfl oC ?_
     refine Calls.mono (iO _ _ b abF) ?_
     rintro e MZ ⟨aCw,rfl,ar3,jd⟩
     have om:=Ext.below lZ jd
     refine ⟨_,rfl,om,?_⟩
     have ar4:Sz ((b:Nat):Int) 90:=Sn.sz hlb
     have r9:=Zn.below rZ (Ext.below oh (Ext.below jo jd))
     refine Pl.aA rfl rfl rfl rfl rfl alP ?_
     refine Calls.mono (AX _ _ _ ((((Nat.gcd a b):Nat):Int)-((cf (quo a b) 1 0).1*((a:Nat):Int))) ((b:Nat):Int) r9 ar3 (Sz.le lY (by decide)) (Sz.le ar4 (by decide)) (by omega) (by rw [yR];exact Int.mul_emod_left _ _) (cf (quo a b) 0 1).1 (by rw [yR];exact Int.mul_ediv_cancel _ (by omega))) ?_
     rintro e alX ⟨aj9,rfl,ar5,lN⟩
     have tV:=Ext.below om lN
     refine ⟨_,rfl,tV,?_⟩
     have aCx:Sz (cf (quo a b) 0 1).1 90:=uB hla
     refine Pl.ah tV rfl rfl rfl rfl rfl ?_
     refine Pl.aB tV rfl rfl rfl rfl rfl rfl ?_
     refine Pl.aB tV rfl rfl rfl rfl rfl rfl ?_
     refine Pl.ak ?_
     have Yk:=Ib.ext ayJ (Ext.below jd lN)
     exact Pl.bK [(4,.slice none 0 0),(5,.pointer (some ⟨N1,0,none⟩)),(6,.pointer (some ⟨N2,0,none⟩)),(7,kH),(8,.pointer (some ⟨N7,0,none⟩)),(10,.pointer (some ⟨N68,0,none⟩)),(36,aj9),(37,(.bool true))] (Pl.aa rfl (Pl.aa rfl (Pl.aa rfl (Pl.aa rfl (Pl.aa rfl (Pl.aa rfl (Pl.aa rfl (Pl.aa rfl Pl.aK)))))))) (hK _ _ ⟨N68,aj9,rfl,(Ext.below oh (Ext.below jo (Ext.below jd lN))),(Nat.le_trans (Below.size oh) ar2),Yk,ar5⟩)
 rintro _ ayK ⟨M0,ap2,rfl,zR,mH,Yl,KT⟩
 have KU:=zR
 have abC:Sz ((b:Nat):Int) 90:=Sn.sz hlb
 have arZ:Sz (cf (quo a b) 0 1).1 90:=uB hla
 refine Pl.aS [(false,8,255),(true,9,511)] 1023 0 Pl.aD (by kernel_rfl) (by kernel_rfl) (by kernel_rfl) ?_
 obtain ⟨Dr,Dt,Du,Dw,rfl⟩:=Zn.sh KT
 refine iP rfl rfl rfl rfl rfl rfl Yl (fun _ T=>T _ KU (Nat.le_trans (Below.size (Ext.refl Sj)) mH)) ?_
 intro abG abH alY ayL aj'
 have lQ:=abH _ zR (Nat.le_trans (Below.size (Ext.refl Sj)) mH)
 have BX:=abH _ KU (Nat.le_trans (Below.size (Ext.refl Sj)) mH)
 have GH:=alY _ _ KT
 refine Pl.aj BX rfl rfl rfl rfl rfl ?_
 refine Pl.ak ?_
 refine Pl.G_V (by kernel_rfl) ?_
 refine Pl.az ?_
 have Pg:=Ib.ext I_5 (Ext.below tT lQ)
 refine Pl.iN (S:=fun X=>Ib X N7 xP (.slice xg xQ xh)∧Ib X M0 Dr (.slice Dt Du Dw)) [(true,0,0),(true,1,1),(true,2,3),(true,3,7),(false,4,15),(false,5,31)] fo Pl.aD (by kernel_rfl) ⟨Ib.ext Pg (Ext.drew (Ext.refl _)),Ib.ext aj' (Ext.drew (Ext.refl _))⟩ ?_
 have lS:=Ext.drew (Ext.refl abG)
 generalize abG.drew=alZ at *
 intro qU
 refine Pl.ah qU rfl rfl rfl rfl rfl ?_
 refine Pl.aR qU rfl rfl rfl rfl rfl (fun X hX=>Ib.load hX.1) ?_
 refine Pl.aR qU rfl rfl rfl rfl rfl (fun X hX=>Ib.load hX.2) ?_
 refine Pl.aj qU rfl rfl rfl rfl rfl ?_
 have abI:=Ib.ext i_1 (Ext.below hB2 (Ext.below hB3 (Ext.below bH (Ext.below tT (Ext.below lQ lS)))))
 have abJ:=Ib.ext Pg lS
 have Sm:=Ib.ext aj' lS
 have abK:=Ib.ext i_2 (Ext.below hB3 (Ext.below bH (Ext.below tT (Ext.below lQ lS))))
 have Ym:=Zn.below lg (Ext.below bH (Ext.below tT (Ext.below lQ lS)))
 have GI:=Zn.below GH lS
 have Yn:=Un.below kZ (Ext.below bH (Ext.below tT (Ext.below lQ lS)))
 have aCy:=qU
 refine abk rfl rfl rfl rfl rfl rfl abI (fun Y T3=>⟨T3 _ _ _ (Nat.ne_of_gt (Nat.lt_of_lt_of_le (Ib.ext i_1 (Ext.below hB2 hB3)).1 Gv)) qU.1,T3 _ _ _ (Nat.ne_of_gt (Nat.lt_of_lt_of_le (Ib.ext i_1 (Ext.below hB2 (Ext.below hB3 (Ext.below bH tT)))).1 mH)) qU.2⟩) ?_
 intro ahN al0 Sq GJ ar6
 have wS:=al0 _ (Ext.below hB1 (Ext.below hB2 (Ext.below hB3 (Ext.below bH (Ext.below tT (Ext.below lQ lS)))))) (Nat.le_trans (Below.size (Ext.refl w)) Gs)
 have tX:=(⟨GJ _ _ _ (Nat.ne_of_gt (Nat.lt_of_lt_of_le (Ib.ext i_1 (Ext.below hB2 hB3)).1 Gv)) qU.1,GJ _ _ _ (Nat.ne_of_gt (Nat.lt_of_lt_of_le (Ib.ext i_1 (Ext.below hB2 (Ext.below hB3 (Ext.below bH tT)))).1 mH)) qU.2⟩:Ib ahN N7 xP (.slice xg xQ xh)∧Ib ahN M0 Dr (.slice Dt Du Dw))
 have abL:=GJ _ _ _ (Nat.ne_of_gt (Nat.lt_of_lt_of_le (Ib.ext i_1 (Ext.refl w1)).1 Dp)) abK
 have Dx:=Sq _ _ Ym
 have abM:=GJ _ _ _ (Nat.ne_of_gt (Nat.lt_of_lt_of_le (Ib.ext i_1 (Ext.below hB2 hB3)).1 Gv)) abJ
 have GK:=Sq _ _ GI
 have Sr:=GJ _ _ _ (Nat.ne_of_gt (Nat.lt_of_lt_of_le (Ib.ext i_1 (Ext.below hB2 (Ext.below hB3 (Ext.below bH tT)))).1 mH)) Sm
 have Yo:=T2.un Sq Yn
 have aCz:=tX
 refine abk rfl rfl rfl rfl rfl rfl abL (fun Y T3=>⟨T3 _ _ _ (Nat.ne_of_gt (Nat.lt_of_lt_of_le (Ib.ext i_2 hB3).1 Gv)) tX.1,T3 _ _ _ (Nat.ne_of_gt (Nat.lt_of_lt_of_le (Ib.ext i_2 (Ext.below hB3 (Ext.below bH tT))).1 mH)) tX.2⟩) ?_
 intro al1 al2 Su GL ar7
 have KV:=al2 _ wS (Nat.le_trans (Below.size hB1) Dp)
 have KW:=(⟨GL _ _ _ (Nat.ne_of_gt (Nat.lt_of_lt_of_le (Ib.ext i_2 hB3).1 Gv)) tX.1,GL _ _ _ (Nat.ne_of_gt (Nat.lt_of_lt_of_le (Ib.ext i_2 (Ext.below hB3 (Ext.below bH tT))).1 mH)) tX.2⟩:Ib al1 N7 xP (.slice xg xQ xh)∧Ib al1 M0 Dr (.slice Dt Du Dw))
 have Yp:=Su _ _ Dx
 have Sv:=GL _ _ _ (Nat.ne_of_lt (Nat.lt_of_lt_of_le (Ib.ext i_1 (Ext.refl w1)).1 Dp)) ar6
 have ar8:=GL _ _ _ (Nat.ne_of_gt (Nat.lt_of_lt_of_le (Ib.ext i_2 hB3).1 Gv)) abM
 have GM:=Su _ _ GK
 have al3:=GL _ _ _ (Nat.ne_of_gt (Nat.lt_of_lt_of_le (Ib.ext i_2 (Ext.below hB3 (Ext.below bH tT))).1 mH)) Sr
 have Yq:=T2.un Su Yo
 refine Pl.ak ?_
 refine FI rfl rfl rfl rfl Sv ar7 ?_
 exact ⟨_,_,_,rfl,Yq,Yp,GM,KV⟩
end Go.Proofs.YtnilonnkcbkdmaaGreatDoor
