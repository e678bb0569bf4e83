/- The greatest common divisor by halves, and by either way. -/
import Derived.Test.YtnilonnkcbkdmaaGreatDoorBbi
import Derived.Test.YtnilonnkcbkdmaaGreatDoorBai
import Derived.Test.YtnilonnkcbkdmaaGreatDoorBbh
import Derived.Test.YtnilonnkcbkdmaaGreatDoorBas

namespace Go.Proofs.YtnilonnkcbkdmaaGreatDoor
open Go.RowKit
set_option linter.all false
set_option maxRecDepth 100000
set_option maxHeartbeats 8000000
theorem am7 {P Q:Nat} (h:P<Q):bQ P Q<0:=by
 have h2:=BN (P:Int) (Q:Int)
 rw [← h2,Int.sign_eq_neg_one_of_neg (by omega)];decide
theorem aib {P Q:Nat} (h:¬ P<Q):¬ bQ P Q<0:=by
 have h2:=BN (P:Int) (Q:Int)
 have h3:=Int.sign_nonneg_iff.2 (show (0:Int)≤(P:Int)-(Q:Int) by omega)
 omega
theorem Tk (w:World) (va vb:Value) (a b:Nat) (ha:Un w va a) (hb:Un w vb b) (hla:Sn a 90) (hlb:Sn b 90) (hab:a<b) :
  Calls Tryz.prog 56 #[va,vb] w fun e w'=>∃ Ax nx cx Ay ny cy cs,e = .returned (.agg (.slice Ax nx cx::.slice Ay ny cy::cs).toArray)∧Un w' (.slice Ax nx cx) b∧Un w' (.slice Ay ny cy) a∧cs.length=8∧(∀ c∈cs,dQ c)∧(∀ c∈cs,c.oneCell'=true)∧Ext w w':=by
 obtain ⟨Aa,ca,rfl,-⟩:=Un.sh ha
 obtain ⟨Ab,cb,rfl,-⟩:=Un.sh hb
 refine Pl.aV (n:=44) (vs:=[.slice Aa (limbs a).length ca,.slice Ab (limbs b).length cb]) Tryz.func56 rfl (by kernel_rfl) (by simp) ?_
 repeat refine Pl.az ?_
 refine Pl.ay (by kernel_rfl) ?_
 refine eH rfl rfl rfl rfl (z:=.agg ([.slice none 0 0,.slice none 0 0,.bool false,.slice none 0 0,.bool false,.slice none 0 0,.bool false,.slice none 0 0,.bool false,.slice none 0 0]:List Value).toArray) (by kernel_rfl) (fun _ _=>trivial) ?_
 intro Nr w1 hB1 hNr kr
 replace kr:Cb w1 Nr 82 [.slice none 0 0,.slice none 0 0,.bool false,.slice none 0 0,.bool false,.slice none 0 0,.bool false,.slice none 0 0,.bool false,.slice none 0 0]:=kr
 refine Pl.ak ?_
 repeat refine Pl.az ?_
 refine Pl.ay (by kernel_rfl) ?_
 refine Pl.ah trivial rfl rfl rfl rfl rfl ?_
 refine Pl.ah trivial rfl rfl rfl rfl rfl ?_
 refine Pl.aA rfl rfl rfl rfl rfl (fun u X=>Pl.enters Tryz.func87 (by kernel_rfl) rfl u X) ?_
 refine Calls.mono (tZ _) ?_
 rintro e w2 ⟨p1,A1,n1,c1,rfl,hz1,hB2⟩
 refine ⟨_,rfl,trivial,?_⟩
 refine Pl.dV (v:=.agg ([.slice Aa (limbs a).length ca,.slice Ab (limbs b).length cb,.bool p1,.slice A1 n1 c1,.bool false,.slice none 0 0,.bool false,.slice none 0 0,.bool p1,.slice A1 n1 c1]:List Value).toArray) trivial rfl rfl rfl (fun ρ hρ X _=>by have e7:=hρ.tmp 7 _ rfl;have e8:=hρ.tmp 8 _ rfl;have e9:=hρ.tmp 9 _ rfl;simp [go_sem,e7,e8,e9]) ?_
 refine eH rfl rfl rfl rfl (z:=.agg ([.slice none 0 0,.slice none 0 0,.bool false,.slice none 0 0,.bool false,.slice none 0 0,.bool false,.slice none 0 0,.bool false,.slice none 0 0]:List Value).toArray) (by kernel_rfl) (fun _ _=>trivial) ?_
 intro Ns w3 hB3 hNs ks
 replace ks:Cb w3 Ns 82 [.slice none 0 0,.slice none 0 0,.bool false,.slice none 0 0,.bool false,.slice none 0 0,.bool false,.slice none 0 0,.bool false,.slice none 0 0]:=ks
 refine fT (new:=[.slice Aa (limbs a).length ca,.slice Ab (limbs b).length cb,.bool p1,.slice A1 n1 c1,.bool false,.slice none 0 0,.bool false,.slice none 0 0,.bool p1,.slice A1 n1 c1]) ks rfl rfl rfl rfl rfl rfl (by kernel_rfl) rfl (by simp [Value.oneCell']) trivial ?_
 have x4:Xt [Ns] w3 (w3.setRow Ns ([.slice Aa (limbs a).length ca,.slice Ab (limbs b).length cb,.bool p1,.slice A1 n1 c1,.bool false,.slice none 0 0,.bool false,.slice none 0 0,.bool p1,.slice A1 n1 c1]:List Value).toArray):=Xt.put ks (iC (sG _ _ _) (iC (sG _ _ _) (aF (aF (aF (aF aN)))))) (by simp) _
 have hrs:Nr≠Ns:=by have:=(Cb.ext kr hB2).lt;omega
 replace ks:=Cb.put ks [.slice Aa (limbs a).length ca,.slice Ab (limbs b).length cb,.bool p1,.slice A1 n1 c1,.bool false,.slice none 0 0,.bool false,.slice none 0 0,.bool p1,.slice A1 n1 c1]
 replace kr:=x4.cb (Cb.ext kr (hB2.below hB3)) (by simpa using hrs)
 have hws:w.heap.size≤Ns:=Nat.le_trans (hB1.below hB2).size hNs
 have hE:=(hB1.below (hB2.below hB3)).xt x4 (by simpa using hws)
 replace hz1:=Zn.kp (Zn.below hz1 hB3) x4.kp
 generalize w3.setRow Ns ([.slice Aa (limbs a).length ca,.slice Ab (limbs b).length cb,.bool p1,.slice A1 n1 c1,.bool false,.slice none 0 0,.bool false,.slice none 0 0,.bool p1,.slice A1 n1 c1]:List Value).toArray=w4 at *
 refine Pl.ak ?_
 repeat refine Pl.az ?_
 refine Pl.ay (by kernel_rfl) ?_
 refine Pl.ah trivial rfl rfl rfl rfl rfl ?_
 refine Pl.ah trivial rfl rfl rfl rfl rfl ?_
 refine Pl.aA rfl rfl rfl rfl rfl (fun u X=>Pl.enters Tryz.func80 (by kernel_rfl) rfl u X) ?_
 refine Calls.mono (KO _ _ _ a b (Un.below ha hE) (Un.below hb hE) _ rfl) ?_
 rintro e w5 ⟨rfl,bH⟩
 refine ⟨_,rfl,trivial,?_⟩
 refine Pl.aI (v:=.bool true) trivial rfl rfl rfl rfl rfl rfl (fun X=>jw (decide_eq_true (am7 hab)) X) ?_
 refine Pl.ak ?_
 replace ks:=Cb.ext ks bH
 replace kr:=Cb.ext kr bH
 replace hE:=hE.below bH
 replace hz1:=Zn.below hz1 bH
 repeat refine Pl.az ?_
 repeat refine Pl.az ?_
 refine Pl.dh rfl ?_
 refine Pl.nK (S:=fun _=>True) fo trivial ?_
 have hD:=Ext.drew (Ext.refl w5)
 replace ks:=Cb.ext ks hD
 replace kr:=Cb.ext kr hD
 replace hE:=hE.below hD
 replace hz1:=Zn.below hz1 hD
 generalize w5.drew=w6 at *
 intro _
 refine Pl.lm 2 3 (fun l' w'=>(∃ p2 A2 n2 c2,Zn w' (.agg #[.bool p2,.slice A2 n2 c2]) 1∧Cb w' Ns 82 [.slice Aa (limbs a).length ca,.slice Ab (limbs b).length cb,.bool p1,.slice A1 n1 c1,.bool false,.slice none 0 0,.bool false,.slice none 0 0,.bool p1,.slice A1 n1 c1]∧Ext w6 w'∧l'=[(5,.pointer (some ⟨Ns,0,none⟩)),(4,.pointer (some ⟨Nr,0,none⟩)),(15,.agg ([.slice Aa (limbs a).length ca,.slice Ab (limbs b).length cb,.bool p1,.slice A1 n1 c1,.bool false,.slice none 0 0,.bool false,.slice none 0 0,.bool p1,.slice A1 n1 c1]:List Value).toArray),(16,.agg ([.bool p2,.slice A2 n2 c2,.bool false,.slice none 0 0,.bool false,.slice none 0 0,.bool p2,.slice A2 n2 c2]:List Value).toArray)])) ?_ ?_
 rotate_left
 · intro hK
   refine Pl.dY [0,1] 3 (by kernel_rfl) (by kernel_rfl) (by kernel_rfl) (Pl.aJ ?_ (Pl.aJ ?_ Pl.aX))
   · refine Pl.aH trivial rfl rfl rfl rfl rfl (Cb.load ks _ _ rfl rfl (by kernel_rfl)) ?_
     refine Pl.ak ?_
     refine Pl.aS [(false,1,1)] 3 2 Pl.aD (by kernel_rfl) (by kernel_rfl) (by kernel_rfl) ?_
     refine Pl.aA rfl rfl rfl rfl rfl (fun u X=>Pl.enters Tryz.func87 (by kernel_rfl) rfl u X) ?_
     refine Calls.mono (tZ _) ?_
     rintro e w7 ⟨p2,A2,n2,c2,rfl,hz2,bW⟩
     replace ks:=Cb.ext ks bW
     refine ⟨_,rfl,trivial,?_⟩
     refine Pl.ak ?_
     refine Pl.bK _ ?_ (hK _ _ ⟨p2,A2,n2,c2,hz2,ks,bW,rfl⟩)
     exact (Pl.aa rfl (Pl.aa rfl (Pl.aa rfl (Pl.aa rfl Pl.aK))))
   · refine Pl.aA rfl rfl rfl rfl rfl (fun u X=>Pl.enters Tryz.func87 (by kernel_rfl) rfl u X) ?_
     refine Calls.mono (tZ _) ?_
     rintro e w7 ⟨p2,A2,n2,c2,rfl,hz2,bW⟩
     replace ks:=Cb.ext ks bW
     refine ⟨_,rfl,trivial,?_⟩
     refine Pl.ak ?_
     refine Pl.aS [(false,0,2)] 3 2 Pl.aD (by kernel_rfl) (by kernel_rfl) (by kernel_rfl) ?_
     refine Pl.aH trivial rfl rfl rfl rfl rfl (Cb.load ks _ _ rfl rfl (by kernel_rfl)) ?_
     refine Pl.ak ?_
     refine Pl.bK _ ?_ (hK _ _ ⟨p2,A2,n2,c2,hz2,ks,bW,rfl⟩)
     exact (Pl.aa rfl (Pl.aa rfl (Pl.aa rfl (Pl.aa rfl Pl.aK))))
 rintro _ w7 ⟨p2,A2,n2,c2,hz2,ks,bW,rfl⟩
 refine Pl.aS [(false,2,3),(false,3,7)] 15 0 Pl.aD (by kernel_rfl) (by kernel_rfl) (by kernel_rfl) ?_
 refine Pl.aA rfl rfl rfl rfl rfl (fun u X=>Pl.enters Tryz.func88 (by kernel_rfl) rfl u X) ?_
 refine Calls.mono (Td w7 Aa Ab ca cb p1 A1 n1 c1 p2 A2 n2 c2 a b (Un.below ha (hE.below bW)) (Un.below hb (hE.below bW)) (Zn.below hz1 bW) hz2 hla hlb hab) ?_
 rintro e w8 ⟨Ax,nx,cx,Ay,ny,cy,cs,rfl,hx,hy,hcg,hcl,cB⟩
 refine ⟨_,rfl,trivial,?_⟩
 replace ks:=Cb.ext ks cB
 obtain ⟨g0,B0,l0,e0,g1,B1,l1,e1,g2,B2,l2,e2,g3,B3,l3,e3,rfl⟩:=Gd.four hcg hcl
 refine fT (new:=[.slice Ax nx cx,.slice Ay ny cy,.bool g0,.slice B0 l0 e0,.bool g1,.slice B1 l1 e1,.bool g2,.slice B2 l2 e2,.bool g3,.slice B3 l3 e3]) ks rfl rfl rfl rfl rfl rfl (by kernel_rfl) rfl (by simp [Value.oneCell']) trivial ?_
 have x9:Xt [Ns] w8 (w8.setRow Ns ([.slice Ax nx cx,.slice Ay ny cy,.bool g0,.slice B0 l0 e0,.bool g1,.slice B1 l1 e1,.bool g2,.slice B2 l2 e2,.bool g3,.slice B3 l3 e3]:List Value).toArray):=Xt.put ks (iC (sG _ _ _) (iC (sG _ _ _) (aF (aF (aF (aF aN)))))) (by simp) _
 replace ks:=Cb.put ks ([.slice Ax nx cx,.slice Ay ny cy,.bool g0,.slice B0 l0 e0,.bool g1,.slice B1 l1 e1,.bool g2,.slice B2 l2 e2,.bool g3,.slice B3 l3 e3])
 replace kr:=x9.cb (Cb.ext kr (bW.below cB)) (by simpa using hrs)
 replace hE:=(hE.below (bW.below cB)).xt x9 (by simpa using hws)
 replace hx:=Un.kp hx x9.kp
 replace hy:=Un.kp hy x9.kp
 generalize w8.setRow Ns ([.slice Ax nx cx,.slice Ay ny cy,.bool g0,.slice B0 l0 e0,.bool g1,.slice B1 l1 e1,.bool g2,.slice B2 l2 e2,.bool g3,.slice B3 l3 e3]:List Value).toArray=w9 at *
 refine Pl.ak ?_
 refine Pl.G_V (by kernel_rfl) ?_
 repeat refine Pl.az ?_
 repeat refine Pl.az ?_
 refine Pl.cK ?_
 refine Pl.uU 0 ?_
 refine Pl.uV ?_
 obtain ⟨A5,c5,e5,-⟩:=Un.sh hy
 injection e5 with e51 e52 e53
 subst e52
 repeat refine Pl.az ?_
 refine Pl.ay (by kernel_rfl) ?_
 refine bg trivial rfl rfl rfl rfl rfl (yV _) ?_
 refine Pl.aH trivial rfl rfl rfl rfl rfl (Cb.fO (j:=1) ks rfl) ?_
 refine bG trivial rfl rfl rfl rfl rfl ?_
 refine Pl.aI (v:=.bool false) trivial rfl rfl rfl rfl rfl rfl (fun X=>kY (by unfold Sn at hla hlb;rw [decide_eq_false_iff_not];omega) X) ?_
 refine Pl.ak ?_
 repeat refine Pl.az ?_
 refine Pl.bD rfl ?_
 repeat refine Pl.az ?_
 refine Pl.jE ?_
 repeat refine Pl.az ?_
 refine Pl.ay (by kernel_rfl) ?_
 refine Pl.aH trivial rfl rfl rfl rfl rfl (Cb.load ks _ _ rfl rfl (by kernel_rfl)) ?_
 refine fT (new:=[.slice Ax nx cx,.slice Ay (limbs a).length cy,.bool g0,.slice B0 l0 e0,.bool g1,.slice B1 l1 e1,.bool g2,.slice B2 l2 e2,.bool g3,.slice B3 l3 e3]) kr rfl rfl rfl rfl rfl rfl (by kernel_rfl) rfl (by simp [Value.oneCell']) trivial ?_
 have xf:Xt [Nr] w9 (w9.setRow Nr ([.slice Ax nx cx,.slice Ay (limbs a).length cy,.bool g0,.slice B0 l0 e0,.bool g1,.slice B1 l1 e1,.bool g2,.slice B2 l2 e2,.bool g3,.slice B3 l3 e3]:List Value).toArray):=Xt.put kr (iC (sG _ _ _) (iC (sG _ _ _) (aF (aF (aF (aF aN)))))) (by simp) _
 replace kr:=Cb.put kr ([.slice Ax nx cx,.slice Ay (limbs a).length cy,.bool g0,.slice B0 l0 e0,.bool g1,.slice B1 l1 e1,.bool g2,.slice B2 l2 e2,.bool g3,.slice B3 l3 e3])
 generalize w9.setRow Nr ([.slice Ax nx cx,.slice Ay (limbs a).length cy,.bool g0,.slice B0 l0 e0,.bool g1,.slice B1 l1 e1,.bool g2,.slice B2 l2 e2,.bool g3,.slice B3 l3 e3]:List Value).toArray=wf at *
 refine Pl.ak ?_
 have hwr:w.heap.size≤Nr:=hNr
 exact l7 rfl rfl kr rfl rfl (by kernel_rfl) ⟨_,_,_,_,_,_,_,rfl,Un.kp hx xf.kp,Un.kp hy xf.kp,rfl,(aF (aF (aF (aF aN)))),by simp [Value.oneCell'],hE.xt xf (by simp;omega)⟩
theorem Tm (w:World) (va vb:Value) (a b:Nat) (ha:Un w va a) (hb:Un w vb b) (hla:Sn a 90) (hlb:Sn b 90) (hab:¬ a<b) :
  Calls Tryz.prog 56 #[va,vb] w fun e w'=>∃ Ax nx cx Ay ny cy cs,e = .returned (.agg (.slice Ax nx cx::.slice Ay ny cy::cs).toArray)∧Un w' (.slice Ax nx cx) a∧Un w' (.slice Ay ny cy) b∧cs.length=8∧(∀ c∈cs,dQ c)∧(∀ c∈cs,c.oneCell'=true)∧Ext w w':=by
 obtain ⟨Aa,ca,rfl,-⟩:=Un.sh ha
 obtain ⟨Ab,cb,rfl,-⟩:=Un.sh hb
 refine Pl.aV (n:=44) (vs:=[.slice Aa (limbs a).length ca,.slice Ab (limbs b).length cb]) Tryz.func56 rfl (by kernel_rfl) (by simp) ?_
 repeat refine Pl.az ?_
 refine Pl.ay (by kernel_rfl) ?_
 refine eH rfl rfl rfl rfl (z:=.agg ([.slice none 0 0,.slice none 0 0,.bool false,.slice none 0 0,.bool false,.slice none 0 0,.bool false,.slice none 0 0,.bool false,.slice none 0 0]:List Value).toArray) (by kernel_rfl) (fun _ _=>trivial) ?_
 intro Nr w1 hB1 hNr kr
 replace kr:Cb w1 Nr 82 [.slice none 0 0,.slice none 0 0,.bool false,.slice none 0 0,.bool false,.slice none 0 0,.bool false,.slice none 0 0,.bool false,.slice none 0 0]:=kr
 refine Pl.ak ?_
 repeat refine Pl.az ?_
 refine Pl.ay (by kernel_rfl) ?_
 refine Pl.ah trivial rfl rfl rfl rfl rfl ?_
 refine Pl.ah trivial rfl rfl rfl rfl rfl ?_
 refine Pl.aA rfl rfl rfl rfl rfl (fun u X=>Pl.enters Tryz.func87 (by kernel_rfl) rfl u X) ?_
 refine Calls.mono (tZ _) ?_
 rintro e w2 ⟨p1,A1,n1,c1,rfl,hz1,hB2⟩
 refine ⟨_,rfl,trivial,?_⟩
 refine Pl.dV (v:=.agg ([.slice Aa (limbs a).length ca,.slice Ab (limbs b).length cb,.bool p1,.slice A1 n1 c1,.bool false,.slice none 0 0,.bool false,.slice none 0 0,.bool p1,.slice A1 n1 c1]:List Value).toArray) trivial rfl rfl rfl (fun ρ hρ X _=>by have e7:=hρ.tmp 7 _ rfl;have e8:=hρ.tmp 8 _ rfl;have e9:=hρ.tmp 9 _ rfl;simp [go_sem,e7,e8,e9]) ?_
 refine eH rfl rfl rfl rfl (z:=.agg ([.slice none 0 0,.slice none 0 0,.bool false,.slice none 0 0,.bool false,.slice none 0 0,.bool false,.slice none 0 0,.bool false,.slice none 0 0]:List Value).toArray) (by kernel_rfl) (fun _ _=>trivial) ?_
 intro Ns w3 hB3 hNs ks
 replace ks:Cb w3 Ns 82 [.slice none 0 0,.slice none 0 0,.bool false,.slice none 0 0,.bool false,.slice none 0 0,.bool false,.slice none 0 0,.bool false,.slice none 0 0]:=ks
 refine fT (new:=[.slice Aa (limbs a).length ca,.slice Ab (limbs b).length cb,.bool p1,.slice A1 n1 c1,.bool false,.slice none 0 0,.bool false,.slice none 0 0,.bool p1,.slice A1 n1 c1]) ks rfl rfl rfl rfl rfl rfl (by kernel_rfl) rfl (by simp [Value.oneCell']) trivial ?_
 have x4:Xt [Ns] w3 (w3.setRow Ns ([.slice Aa (limbs a).length ca,.slice Ab (limbs b).length cb,.bool p1,.slice A1 n1 c1,.bool false,.slice none 0 0,.bool false,.slice none 0 0,.bool p1,.slice A1 n1 c1]:List Value).toArray):=Xt.put ks (iC (sG _ _ _) (iC (sG _ _ _) (aF (aF (aF (aF aN)))))) (by simp) _
 have hrs:Nr≠Ns:=by have:=(Cb.ext kr hB2).lt;omega
 replace ks:=Cb.put ks [.slice Aa (limbs a).length ca,.slice Ab (limbs b).length cb,.bool p1,.slice A1 n1 c1,.bool false,.slice none 0 0,.bool false,.slice none 0 0,.bool p1,.slice A1 n1 c1]
 replace kr:=x4.cb (Cb.ext kr (hB2.below hB3)) (by simpa using hrs)
 have hws:w.heap.size≤Ns:=Nat.le_trans (hB1.below hB2).size hNs
 have hE:=(hB1.below (hB2.below hB3)).xt x4 (by simpa using hws)
 replace hz1:=Zn.kp (Zn.below hz1 hB3) x4.kp
 generalize w3.setRow Ns ([.slice Aa (limbs a).length ca,.slice Ab (limbs b).length cb,.bool p1,.slice A1 n1 c1,.bool false,.slice none 0 0,.bool false,.slice none 0 0,.bool p1,.slice A1 n1 c1]:List Value).toArray=w4 at *
 refine Pl.ak ?_
 repeat refine Pl.az ?_
 refine Pl.ay (by kernel_rfl) ?_
 refine Pl.ah trivial rfl rfl rfl rfl rfl ?_
 refine Pl.ah trivial rfl rfl rfl rfl rfl ?_
 refine Pl.aA rfl rfl rfl rfl rfl (fun u X=>Pl.enters Tryz.func80 (by kernel_rfl) rfl u X) ?_
 refine Calls.mono (KO _ _ _ a b (Un.below ha hE) (Un.below hb hE) _ rfl) ?_
 rintro e w5 ⟨rfl,bH⟩
 refine ⟨_,rfl,trivial,?_⟩
 refine Pl.aI (v:=.bool false) trivial rfl rfl rfl rfl rfl rfl (fun X=>jw (decide_eq_false (aib hab)) X) ?_
 refine Pl.ak ?_
 replace ks:=Cb.ext ks bH
 replace kr:=Cb.ext kr bH
 replace hE:=hE.below bH
 replace hz1:=Zn.below hz1 bH
 repeat refine Pl.az ?_
 repeat refine Pl.az ?_
 refine Pl.bD rfl ?_
 repeat refine Pl.az ?_
 refine Pl.bN ?_
 repeat refine Pl.az ?_
 repeat refine Pl.az ?_
 refine Pl.cK ?_
 refine Pl.uU 0 ?_
 refine Pl.uV ?_
 repeat refine Pl.az ?_
 refine Pl.ay (by kernel_rfl) ?_
 refine bg trivial rfl rfl rfl rfl rfl (yV _) ?_
 refine Pl.aH trivial rfl rfl rfl rfl rfl (Cb.fO (j:=1) ks rfl) ?_
 refine bG trivial rfl rfl rfl rfl rfl ?_
 refine Pl.aI (v:=.bool false) trivial rfl rfl rfl rfl rfl rfl (fun X=>kY (by unfold Sn at hla hlb;rw [decide_eq_false_iff_not];omega) X) ?_
 refine Pl.ak ?_
 repeat refine Pl.az ?_
 refine Pl.bD rfl ?_
 repeat refine Pl.az ?_
 refine Pl.jE ?_
 repeat refine Pl.az ?_
 refine Pl.ay (by kernel_rfl) ?_
 refine Pl.aH trivial rfl rfl rfl rfl rfl (Cb.load ks _ _ rfl rfl (by kernel_rfl)) ?_
 refine fT (new:=[.slice Aa (limbs a).length ca,.slice Ab (limbs b).length cb,.bool p1,.slice A1 n1 c1,.bool false,.slice none 0 0,.bool false,.slice none 0 0,.bool p1,.slice A1 n1 c1]) kr rfl rfl rfl rfl rfl rfl (by kernel_rfl) rfl (by simp [Value.oneCell']) trivial ?_
 have xf:Xt [Nr] w5 (w5.setRow Nr ([.slice Aa (limbs a).length ca,.slice Ab (limbs b).length cb,.bool p1,.slice A1 n1 c1,.bool false,.slice none 0 0,.bool false,.slice none 0 0,.bool p1,.slice A1 n1 c1]:List Value).toArray):=Xt.put kr (iC (sG _ _ _) (iC (sG _ _ _) (aF (aF (aF (aF aN)))))) (by simp) _
 replace kr:=Cb.put kr ([.slice Aa (limbs a).length ca,.slice Ab (limbs b).length cb,.bool p1,.slice A1 n1 c1,.bool false,.slice none 0 0,.bool false,.slice none 0 0,.bool p1,.slice A1 n1 c1])
 generalize w5.setRow Nr ([.slice Aa (limbs a).length ca,.slice Ab (limbs b).length cb,.bool p1,.slice A1 n1 c1,.bool false,.slice none 0 0,.bool false,.slice none 0 0,.bool p1,.slice A1 n1 c1]:List Value).toArray=wf at *
 refine Pl.ak ?_
 have hwr:w.heap.size≤Nr:=hNr
 exact l7 rfl rfl kr rfl rfl (by kernel_rfl) ⟨_,_,_,_,_,_,_,rfl,Un.kp (Un.below ha hE) xf.kp,Un.kp (Un.below hb hE) xf.kp,rfl,(aF (aF (aF (aF aN)))),by simp [Value.oneCell'],hE.xt xf (by simp;omega)⟩
theorem Ia (w:World) (va vb:Value) (a b:Nat) (ha:Un w va a) (hb:Un w vb b) (hla:Sn a 90) (hlb:Sn b 90) :
  Calls Tryz.prog 56 #[va,vb] w fun e w'=>∃ Ax nx cx Ay ny cy cs P Q,e = .returned (.agg (.slice Ax nx cx::.slice Ay ny cy::cs).toArray)∧Un w' (.slice Ax nx cx) P∧Un w' (.slice Ay ny cy) Q∧Sn P 90∧Sn Q 90∧Nat.gcd P Q=Nat.gcd a b∧cs.length=8∧(∀ c∈cs,dQ c)∧(∀ c∈cs,c.oneCell'=true)∧Ext w w':=by
 by_cases hab:a<b
 · exact (Tk w va vb a b ha hb hla hlb hab).mono fun e w' ⟨Ax,nx,cx,Ay,ny,cy,cs,h1,h2,h3,h4,h5,h7,h6⟩=>⟨Ax,nx,cx,Ay,ny,cy,cs,b,a,h1,h2,h3,hlb,hla,Nat.gcd_comm _ _,h4,h5,h7,h6⟩
 · exact (Tm w va vb a b ha hb hla hlb hab).mono fun e w' ⟨Ax,nx,cx,Ay,ny,cy,cs,h1,h2,h3,h4,h5,h7,h6⟩=>⟨Ax,nx,cx,Ay,ny,cy,cs,a,b,h1,h2,h3,hla,hlb,rfl,h4,h5,h7,h6⟩
theorem jX (w:World) (va vb:Value) (a b:Nat) (ha:Un w va a) (hb:Un w vb b) (hla:Sn a 90) (hlb:Sn b 90) :
  Calls Tryz.prog 22 #[va,vb] w fun e w'=>∃ z,e = .returned z∧Un w' z (Nat.gcd a b)∧Ext w w':=by
 refine Pl.aV (n:=14) (vs:=[va,vb]) Tryz.func22 rfl (by kernel_rfl) (by simp) ?_
 repeat refine Pl.az ?_
 refine Pl.ay (by kernel_rfl) ?_
 refine Pl.aj trivial rfl rfl rfl rfl rfl ?_
 refine Pl.ak ?_
 repeat refine Pl.az ?_
 refine Pl.ay (by kernel_rfl) ?_
 refine Pl.ah trivial rfl rfl rfl rfl rfl ?_
 refine Pl.ah trivial rfl rfl rfl rfl rfl ?_
 refine Pl.aA rfl rfl rfl rfl rfl (fun u X=>Pl.enters Tryz.func56 (by kernel_rfl) rfl u X) ?_
 refine Calls.mono (Ia _ _ _ a b ha hb hla hlb) ?_
 rintro e w1 ⟨Ax,nx,cx,Ay,ny,cy,cs,P,Q,rfl,hx,hy,hp,hq,hg,hl,hn,hcc,hB1⟩
 refine ⟨_,rfl,trivial,?_⟩
 refine eH rfl rfl rfl rfl (z:=.agg ([.slice none 0 0,.slice none 0 0,.bool false,.slice none 0 0,.bool false,.slice none 0 0,.bool false,.slice none 0 0,.bool false,.slice none 0 0]:List Value).toArray) (by kernel_rfl) (fun _ _=>trivial) ?_
 intro Ns w2 hB2 hNs ks
 replace ks:Cb w2 Ns 82 [.slice none 0 0,.slice none 0 0,.bool false,.slice none 0 0,.bool false,.slice none 0 0,.bool false,.slice none 0 0,.bool false,.slice none 0 0]:=ks
 refine fT (new:=.slice Ax nx cx::.slice Ay ny cy::cs) ks rfl rfl rfl rfl rfl rfl (by rw [List.length_cons,List.length_cons,hl];kernel_rfl) (by simp [hl]) (by intro c hc;simp only [List.mem_cons] at hc;rcases hc with rfl | rfl | hc;rfl;rfl;exact hcc c hc) trivial ?_
 have x3:Xt [Ns] w2 (w2.setRow Ns (.slice Ax nx cx::.slice Ay ny cy::cs:List Value).toArray):=Xt.put ks (iC (sG _ _ _) (iC (sG _ _ _) (aF (aF (aF (aF aN)))))) (by simp [hl]) _
 replace ks:=Cb.put ks (.slice Ax nx cx::.slice Ay ny cy::cs)
 have hE:=(hB1.below hB2).xt x3 (by simp;exact Nat.le_trans hB1.size hNs)
 replace hx:=Un.kp (Un.below hx hB2) x3.kp
 replace hy:=Un.kp (Un.below hy hB2) x3.kp
 generalize w2.setRow Ns (.slice Ax nx cx::.slice Ay ny cy::cs:List Value).toArray=w3 at *
 refine Pl.ak ?_
 repeat refine Pl.az ?_
 refine Pl.ay (by kernel_rfl) ?_
 refine bg trivial rfl rfl rfl rfl rfl (Lf _) ?_
 refine Pl.aH trivial rfl rfl rfl rfl rfl (Cb.fO (j:=0) ks rfl) ?_
 refine bg trivial rfl rfl rfl rfl rfl (yV _) ?_
 refine Pl.aH trivial rfl rfl rfl rfl rfl (Cb.fO (j:=1) ks rfl) ?_
 refine Pl.aA rfl rfl rfl rfl rfl (fun u X=>Pl.enters Tryz.func21 (by kernel_rfl) rfl u X) ?_
 refine Calls.mono (iZ _ _ _ P Q hx hy hp hq) ?_
 rintro e w4 ⟨z,rfl,hz,hB4⟩
 refine ⟨_,rfl,trivial,?_⟩
 refine Pl.aj trivial rfl rfl rfl rfl rfl ?_
 refine Pl.ak ?_
 exact Pl.bU rfl rfl ⟨_,rfl,by rw [← hg];exact hz,hE.below hB4⟩
theorem jP (w:World) (va vb:Value) (a b:Nat) (ha:Un w va a) (hb:Un w vb b) (hla:Sn a 90) (hlb:Sn b 90) :
  Calls Tryz.prog 20 #[va,vb] w fun e w'=>∃ z,e = .returned z∧Un w' z (Nat.gcd a b)∧Ext w w':=by
 obtain ⟨Aa,ca,rfl,-⟩:=Un.sh ha
 obtain ⟨Ab,cb,rfl,-⟩:=Un.sh hb
 have hmin:decide ((3000:Int)≤(if ((limbs b).length:Int)<((limbs a).length:Int) then ((limbs b).length:Int) else ((limbs a).length:Int)))=false:=by unfold Sn at hla hlb;rw [decide_eq_false_iff_not];split<;>omega
 refine Pl.aV (n:=17) (vs:=[.slice Aa (limbs a).length ca,.slice Ab (limbs b).length cb]) Tryz.func20 rfl (by kernel_rfl) (by simp) ?_
 repeat refine Pl.az ?_
 refine Pl.ay (by kernel_rfl) ?_
 refine Pl.aj trivial rfl rfl rfl rfl rfl ?_
 refine Pl.ak ?_
 repeat refine Pl.az ?_
 refine Pl.ay (by kernel_rfl) ?_
 refine Pl.ah trivial rfl rfl rfl rfl rfl ?_
 refine bG trivial rfl rfl rfl rfl rfl ?_
 refine Pl.ah trivial rfl rfl rfl rfl rfl ?_
 refine bG trivial rfl rfl rfl rfl rfl ?_
 refine abf trivial rfl rfl rfl rfl rfl rfl ?_
 refine Pl.aI (v:=.bool false) trivial rfl rfl rfl rfl rfl rfl (fun X=>rV hmin X) ?_
 refine Pl.ak ?_
 repeat refine Pl.az ?_
 refine Pl.bD rfl ?_
 repeat refine Pl.az ?_
 refine Pl.bN ?_
 repeat refine Pl.az ?_
 refine Pl.ay (by kernel_rfl) ?_
 refine Pl.ah trivial rfl rfl rfl rfl rfl ?_
 refine Pl.ah trivial rfl rfl rfl rfl rfl ?_
 refine Pl.aA rfl rfl rfl rfl rfl (fun u X=>Pl.enters Tryz.func21 (by kernel_rfl) rfl u X) ?_
 refine Calls.mono (iZ _ _ _ a b ha hb hla hlb) ?_
 rintro e w4 ⟨z,rfl,hz,hB4⟩
 refine ⟨_,rfl,trivial,?_⟩
 refine Pl.aj trivial rfl rfl rfl rfl rfl ?_
 refine Pl.ak ?_
 exact Pl.bU rfl rfl ⟨_,rfl,hz,hB4⟩
end Go.Proofs.YtnilonnkcbkdmaaGreatDoor
/- The document's whole numbers: made, turned, ordered. -/
namespace Go.Proofs.YtnilonnkcbkdmaaGreatDoor
open Go.RowKit
set_option linter.all false
set_option maxRecDepth 100000
set_option maxHeartbeats 8000000
theorem adJ (w:World) (b:Bool) (v:Value) (xs:List Nat) (hu:U w v xs) (hlen:xs.length≤1000000000) (n:Nat) (hn:val xs=n) (z:Int) (hz:sg b n=z) :
  Calls Tryz.prog 33 #[.bool b,v] w fun e w'=>∃ u,e = .returned u∧Zn w' u z∧Ext w w':=by
 have hM:=Lib.hid (fun W h=>iq W v xs h hlen n hn)
 have hE0:=(Ext.refl w).alloc (.cells #[.bool false,.slice none 0 0] 27)
 have hI0:=Ib.new w false (.slice none 0 0) 27
 have hu0:=hu.below hE0
 have hza:z.natAbs=n:=by rw [← hz,afU]
 have hzn:decide (z<0)=(b&&decide (0<n)):=by rw [← hz,ape]
 obtain ⟨L,hL⟩:∃ L,(limbs n).length=L:=⟨_,rfl⟩
 have hc:=Ej n
 rw [hL] at hc
 have HL:=Lib.hid hL
 have HZ:=Lib.hid (And.intro hza hzn)
 obtain ⟨A0,c0,rfl,-⟩:=id hu
 obtain ⟨l0,hl0⟩:∃ l,xs.length=l:=⟨_,rfl⟩
 rw [hl0] at hM hu0 ⊢
 clear hl0
 clear hz hn hL hza hzn
 rcases hc with ⟨h1,rfl⟩ | ⟨h1,h2⟩
 · subst h1
   cases b
   all_goals (
    go_enter Tryz.func33,Tryz.ntmps33
    go_wp2_with (go_at_call 37;refine (hM.out _ hu0).mono ?_;rintro e w2 ⟨u,rfl,hu2,hE2⟩;obtain ⟨A,c,rfl,hc⟩:=Un.sh hu2;rw [HL.out] at hu2 ⊢;clear hc;have hI2:=hI0.ext hE2;obtain ⟨i0,i1,i2,i3,i4⟩:=id hI2)
    (try simp only [Exit.inBlock,Exit.then])
    refine bodyPost_ret (v:=.agg #[.bool false,.slice A 0 c]) (show (results _ _).run _ _=_ from ?_) rfl ⟨_,rfl,Zn.mk' (Un.jS hu2 hI2 (dF _ _ _) _ _) HL.out HZ.out.1 HZ.out.2,(hE0.below hE2).jS (Nat.le_refl _) _ _⟩
    simp only [results]
    go_simp)
 · have h3:(0:Int)<(L:Int):=by omega
   have hb0:Hid (decide (0<n)=true):=decide_eq_true (by omega)
   cases b
   case' false=>have HS:Hid (decide (z<0)=false):=by show _=_;rw [HZ.out.2];rfl
   case' true=>have HS:Hid (decide (z<0)=true):=by show _=_;rw [HZ.out.2,hb0.out];rfl
   all_goals (
    go_enter Tryz.func33,Tryz.ntmps33
    go_wp2_with (go_at_call 37;refine (hM.out _ hu0).mono ?_;rintro e w2 ⟨u,rfl,hu2,hE2⟩;obtain ⟨A,c,rfl,hc⟩:=Un.sh hu2;rw [HL.out] at hu2 ⊢;clear hc;have hI2:=hI0.ext hE2;obtain ⟨i0,i1,i2,i3,i4⟩:=id hI2)
    (try simp only [Exit.inBlock,Exit.then])
    refine bodyPost_ret (v:=.agg #[.bool _,.slice A L c]) (show (results _ _).run _ _=_ from ?_) rfl ⟨_,rfl,Zn.mk' (Un.jS hu2 hI2 (dF _ _ _) _ _) HL.out HZ.out.1 HS.out,(hE0.below hE2).jS (Nat.le_refl _) _ _⟩
    simp only [results]
    go_simp)
theorem aa6 (w:World) (k:Int) (h0:0≤k) (h1:k<18446744073709551616) (n:Nat) (hn:k.toNat=n) :
  Calls Tryz.prog 71 #[.int .u64 k] w fun e w'=>∃ u,e = .returned u∧Un w' u n∧Ext w w':=by
 obtain ⟨m,rfl⟩:=Int.eq_ofNat_of_zero_le h0
 rw [Int.toNat_natCast] at hn
 subst hn
 obtain ⟨r,hr⟩:∃ r,m%4294967296=r:=⟨_,rfl⟩
 obtain ⟨q,hq⟩:∃ q,m/4294967296=q:=⟨_,rfl⟩
 have hrb:r<4294967296:=by omega
 have hqb:q<4294967296:=by omega
 have hv:val [r,q]=m:=by simp only [val];omega
 have hu:=Lib.hid (fun W=>xJ W [r,q] (by simp;omega) (by simp))
 have o1:(m:Int).tmod 4294967296=(r:Int):=by rw [Int.tmod_eq_emod_of_nonneg (Int.natCast_nonneg _)];omega
 have o2:(m:Int)%4294967296=(r:Int):=by omega
 have o3:(m:Int).tdiv 4294967296=(q:Int):=by rw [Int.tdiv_eq_ediv_of_nonneg (Int.natCast_nonneg _)];omega
 have o4:(m:Int)/4294967296=(q:Int):=by omega
 have o5:(r:Int)%4294967296=(r:Int):=by omega
 have o6:(q:Int)%4294967296=(q:Int):=by omega
 have o7:IntKind.u32.wrap (r:Int)=(r:Int):=by rw [IntKind.wrap_u32];omega
 have o8:IntKind.u32.wrap (q:Int)=(q:Int):=by rw [IntKind.wrap_u32];omega
 have o9:IntKind.u64.wrap (q:Int)=(q:Int):=by rw [IntKind.wrap_u64];omega
 have hM:=Lib.hid (fun W v h=>iq W v [r,q] h (by simp) m hv)
 clear hr hq hv h0
 go_enter Tryz.func71,Tryz.ntmps71
 go_wp2_with (go_at_call 37;refine (hM.out _ _ (hu.out w)).mono ?_;rintro e w2 ⟨u,rfl,hu2,hE2⟩;obtain ⟨A2,c2,rfl,-⟩:=Un.sh hu2)
 go_ret
 exact ⟨_,rfl,hu2,((Ext.refl w).alloc _).below hE2⟩
theorem Im (w:World) (z:Int) (h1 : -9223372036854775808≤z) (h2:z≤9223372036854775807) :
  Calls Tryz.prog 40 #[.int .i64 z] w fun e w'=>∃ u,e = .returned u∧Zn w' u z∧Ext w w':=by
 have hE0:=(Ext.refl w).alloc (.cells #[.bool false,.slice none 0 0] 27)
 have hI0:=Ib.new w false (.slice none 0 0) 27
 by_cases h0:z<0
 · obtain ⟨m,hm⟩:∃ m:Nat,-z=(m:Int):=⟨(-z).toNat,by omega⟩
   obtain ⟨k,hk⟩:∃ k:Nat,z+18446744073709551616=(k:Int):=⟨(z+18446744073709551616).toNat,by omega⟩
   have o1:z%18446744073709551616=(k:Int):=by omega
   have o2:IntKind.u64.wrap z=(k:Int):=by rw [IntKind.wrap_u64];omega
   have o3:(-(k:Int))%18446744073709551616=(m:Int):=by omega
   have o4:IntKind.u64.wrap (-(k:Int))=(m:Int):=by rw [IntKind.wrap_u64];omega
   have hM:=Lib.hid (fun W v h=>adJ W true v (limbs m) h (by have:=iA (k:=2) (show m<LB^2 by unfold LB;omega);omega) m (aG m) z (by rw [FH];omega))
   have hOf:=Lib.hid (fun W=>aa6 W (m:Int) (by omega) (by omega) m (by simp))
   clear hm hk
   go_enter Tryz.func40,Tryz.ntmps40
   go_wp2_with (first
    | (go_at_call 71;refine (hOf.out _).mono ?_;rintro e w2 ⟨u,rfl,hu2,hE2⟩;obtain ⟨A2,c2,rfl,hc2⟩:=Un.sh hu2)
    | (go_at_call 33;refine (hM.out _ _ hu2).mono ?_;rintro e w3 ⟨u,rfl,hz3,pE⟩;obtain ⟨b3,A3,L3,c3,rfl⟩:=hz3.sh;have Bu:=(hI0.ext hE2).ext pE;obtain ⟨i0,i1,i2,i3,i4⟩:=id Bu))
   (try simp only [Exit.inBlock,Exit.then])
   refine bodyPost_ret (v:=.agg #[.bool b3,.slice A3 L3 c3]) (show (results _ _).run _ _=_ from ?_) rfl ⟨_,rfl,hz3.jS Bu (dF _ _ _) _ _,((hE0.below hE2).below pE).jS (by simp) _ _⟩
   simp only [results]
   go_simp
 · obtain ⟨m,rfl⟩:=Int.eq_ofNat_of_zero_le (show 0≤z by omega)
   have o1:(m:Int)%18446744073709551616=(m:Int):=by omega
   have o2:IntKind.u64.wrap (m:Int)=(m:Int):=by rw [IntKind.wrap_u64];omega
   have hM:=Lib.hid (fun W v h=>adJ W false v (limbs m) h (by have:=iA (k:=2) (show m<LB^2 by unfold LB;omega);omega) m (aG m) (m:Int) rfl)
   have hOf:=Lib.hid (fun W=>aa6 W (m:Int) (by omega) (by omega) m (by simp))
   go_enter Tryz.func40,Tryz.ntmps40
   go_wp2_with (first
    | (go_at_call 71;refine (hOf.out _).mono ?_;rintro e w2 ⟨u,rfl,hu2,hE2⟩;obtain ⟨A2,c2,rfl,hc2⟩:=Un.sh hu2)
    | (go_at_call 33;refine (hM.out _ _ hu2).mono ?_;rintro e w3 ⟨u,rfl,hz3,pE⟩;obtain ⟨b3,A3,L3,c3,rfl⟩:=hz3.sh;have Bu:=(hI0.ext hE2).ext pE;obtain ⟨i0,i1,i2,i3,i4⟩:=id Bu))
   (try simp only [Exit.inBlock,Exit.then])
   refine bodyPost_ret (v:=.agg #[.bool b3,.slice A3 L3 c3]) (show (results _ _).run _ _=_ from ?_) rfl ⟨_,rfl,hz3.jS Bu (dF _ _ _) _ _,((hE0.below hE2).below pE).jS (by simp) _ _⟩
   simp only [results]
   go_simp
theorem aa8 (w:World) (va vb:Value) (a b:Int) (ha:Zn w va a) (hb:Zn w vb b) (hl:(limbs a.natAbs).length≤1000000) (hl2:(limbs b.natAbs).length≤1000000) (k:Int) (hk:bQ a b=k) :
  Calls Tryz.prog 57 #[va,vb] w fun e w'=>e = .returned (.int .i64 k)∧Ext w w':=by
 obtain ⟨p,A,L,c,n,rfl,hu,hL,hz,-,hza,hzn⟩:=ha.open
 obtain ⟨q,B,K,d,m,rfl,hv,hK,hz2,-,xA,Fz⟩:=hb.open
 rw [hza] at hl
 rw [xA] at hl2
 have hE0:=((Ext.refl w).alloc (.cells #[.bool p,.slice A L c] 27)).alloc (.cells #[.bool q,.slice B K d] 27)
 have hu0:=hu.below hE0
 have hv0:=hv.below hE0
 have aaB:decide (a<0)=p:=hzn
 have aaC:decide (b<0)=q:=Fz
 cases p<;>cases q
 case' false.false =>
  have hC:=Lib.hid (Nu _ (.slice A L c) (.slice B K d) n m hu0 hv0 (by omega) (by omega) k (by
   have h1:=of_decide_eq_false aaB
   have h2:=of_decide_eq_false aaC
   rw [← hk,show a=(n:Int) by omega,show b=(m:Int) by omega]))
 case' true.true =>
  have hC:=Lib.hid (Nu _ (.slice B K d) (.slice A L c) m n hv0 hu0 (by omega) (by omega) k (by
   have h1:=of_decide_eq_true aaB
   have h2:=of_decide_eq_true aaC
   rw [← hk,show a = -(n:Int) by omega,show b = -(m:Int) by omega]
   unfold bQ;(repeat' split)<;>omega))
 case' true.false =>
  have hkk:k = -1:=by
   have h1:=of_decide_eq_true aaB
   have h2:=of_decide_eq_false aaC
   rw [← hk];exact if_pos (by omega)
  subst hkk
 case' false.true =>
  have hkk:k=1:=by
   have h1:=of_decide_eq_false aaB
   have h2:=of_decide_eq_true aaC
   rw [← hk];unfold bQ;rw [if_neg (by omega),if_pos (by omega)]
  subst hkk
 all_goals (
  clear hl hl2 hza hzn xA Fz hz hz2 hL hK ha hb hu hv hk aaB aaC hu0 hv0
  go_enter Tryz.func57,Tryz.ntmps57
  go_wp2_with (go_at_call 35;refine hC.out.mono ?_;rintro e w2 ⟨rfl,hE2⟩)
  go_ret
  exact ⟨rfl,by first | exact hE0.below hE2 | exact hE0⟩)
theorem aaD (a b:Int):bQ a b=0↔a=b:=by unfold bQ;(repeat' split)<;>omega
theorem DY (w:World) (va vb:Value) (a b:Int) (ha:Zn w va a) (hb:Zn w vb b) (hl:(limbs a.natAbs).length≤1000000) (hl2:(limbs b.natAbs).length≤1000000) (r:Bool) (hr:decide (a=b)=r) :
  Calls Tryz.prog 23 #[va,vb] w fun e w'=>e = .returned (.bool r)∧Ext w w':=by
 have ha':=ha
 have hb':=hb
 obtain ⟨p,A,L,c,n,rfl,-,-,-,-,-,hzn⟩:=ha.open
 obtain ⟨q,B,K,d,m,rfl,-,-,-,-,-,Fz⟩:=hb.open
 have hE0:=((Ext.refl w).alloc (.cells #[.bool p,.slice A L c] 27)).alloc (.cells #[.bool q,.slice B K d] 27)
 have Dh:=(Ib.new w p (.slice A L c) 27).ext ((Ext.refl _).alloc (.cells #[.bool q,.slice B K d] 27))
 have qj:=Ib.new2 w (.cells #[.bool p,.slice A L c] 27) q (.slice B K d) 27
 obtain ⟨k,hk⟩:∃ k,bQ a b=k:=⟨_,rfl⟩
 have hC:=Lib.hid (aa8 _ _ _ a b (ha'.below hE0) (hb'.below hE0) hl hl2 k hk)
 by_cases hab:a=b
 · rw [decide_eq_true hab] at hr
   subst hr
   have hk0:k=0:=by rw [← hk];exact (aaD a b).2 hab
   have hpq:p=q:=by rw [← hzn,← Fz,hab]
   subst hk0
   subst hpq
   clear hk hab hzn Fz hl hl2 ha hb ha' hb'
   cases p
   all_goals (
    go_enter Tryz.func23,Tryz.ntmps23
    go_wp2_with (go_at_call 57;refine hC.out.mono ?_;rintro e w2 ⟨rfl,hE2⟩;obtain ⟨p0,p1,p2,p3,p4⟩:=Dh.ext hE2;obtain ⟨q0,q1,q2,q3,q4⟩:=qj.ext hE2)
    go_ret
    exact ⟨by first | rfl | simp,hE0.below hE2⟩)
 · rw [decide_eq_false hab] at hr
   subst hr
   have hk0:(k==0)=false:=by
    rw [beq_eq_false_iff_ne]
    intro h
    exact hab ((aaD a b).1 (hk.trans h))
   clear hk hab hzn Fz hl hl2 ha hb ha' hb'
   go_enter Tryz.func23,Tryz.ntmps23
   go_wp2_with (go_at_call 57;refine hC.out.mono ?_;rintro e w2 ⟨rfl,hE2⟩;obtain ⟨p0,p1,p2,p3,p4⟩:=Dh.ext hE2;obtain ⟨q0,q1,q2,q3,q4⟩:=qj.ext hE2)
   go_ret
   exact ⟨by first | rfl | simp,hE0.below hE2⟩
end Go.Proofs.YtnilonnkcbkdmaaGreatDoor
