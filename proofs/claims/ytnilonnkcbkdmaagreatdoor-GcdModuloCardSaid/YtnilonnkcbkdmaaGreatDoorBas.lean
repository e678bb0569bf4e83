/- The document's own Add. -/
import Derived.Test.YtnilonnkcbkdmaaGreatDoorBao
import Derived.Test.YtnilonnkcbkdmaaGreatDoorBai
import Derived.Test.YtnilonnkcbkdmaaGreatDoorBar
import Derived.Test.YtnilonnkcbkdmaaGreatDoorBab

namespace Go.Proofs.YtnilonnkcbkdmaaGreatDoor
open Go.RowKit
set_option linter.unusedVariables false
set_option maxHeartbeats 400000
attribute [local go_sem ↓] dH
attribute [local go_sem] aT
def pv (xs:List Nat) (k:Nat):Nat:=val ((List.range k).map fun j=>lb xs j)
theorem ajM (xs:List Nat):pv xs 0=0:=rfl
theorem Dg (xs:List Nat) (k:Nat):pv xs (k+1)=pv xs k+lb xs k*4294967296^k:=by
 unfold pv
 rw [List.range_succ,List.map_append,val_append]
 simp only [List.map_cons,List.map_nil,val,Nat.mul_zero,Nat.add_zero,List.length_map,List.length_range]
 rw [Nat.mul_comm]
theorem JW (xs:List Nat) (L:Nat) (h:xs.length≤L):pv xs L=val xs:=dU xs L h
theorem agR (xs:List Nat) (k:Nat) (h:∀ x∈xs,x<4294967296):pv xs k<4294967296^k:=by
 have:=lM ((List.range k).map fun j=>lb xs j) (by intro x hx;obtain ⟨j,_,rfl⟩:=List.mem_map.1 hx;exact aQ h j)
 simpa [pv] using this
theorem JX (o:List Nat) (x:Nat):val (o++[x])=val o+x*4294967296^o.length:=by
 rw [val_append];simp only [val,Nat.mul_zero,Nat.add_zero];rw [Nat.mul_comm]
structure iW (xs ys:List Nat) (k:Nat) (o:List Nat) (c:Nat):Prop where
 len:o.length=k
 lt:∀ x∈o,x<4294967296
 carry:c≤1
 val_eq:val o+c*4294967296^k=pv xs k+pv ys k
theorem iW.start (xs ys:List Nat):iW xs ys 0 [] 0:=⟨rfl,by simp,by omega,rfl⟩
theorem iW.step {xs ys:List Nat} {k:Nat} {o:List Nat} {c:Nat} (h:iW xs ys k o c) (hx:∀ x∈xs,x<4294967296) (hy:∀ x∈ys,x<4294967296) :
  iW xs ys (k+1) (o++[(lb xs k+lb ys k+c)%4294967296]) ((lb xs k+lb ys k+c)/4294967296):=by
 have h1:=aQ hx k
 have h2:=aQ hy k
 have h3:=h.carry
 refine ⟨by simp [h.len],wD h.lt (Nat.mod_lt _ (by decide)),by omega,?_⟩
 rw [JX,Dg,Dg,h.len,Nat.pow_succ]
 have e:=h.val_eq
 generalize 4294967296^k=B at *
 generalize lb xs k=p at *
 generalize lb ys k=q at *
 have e4:(p+q+c)*B=(p+q+c)%4294967296*B+(p+q+c)/4294967296*4294967296*B:=by
  conv=>lhs;rw [show p+q+c=(p+q+c)%4294967296+(p+q+c)/4294967296*4294967296 by omega]
  rw [Nat.add_mul]
 rw [Nat.add_mul,Nat.add_mul] at e4
 have e5:(p+q+c)/4294967296*(B*4294967296)=(p+q+c)/4294967296*4294967296*B:=by
  rw [Nat.mul_comm B 4294967296,← Nat.mul_assoc]
 rw [e5]
 omega
theorem iW.done {xs ys:List Nat} {k:Nat} {o:List Nat} {c:Nat} (h:iW xs ys (k+1) o c) (hx:∀ x∈xs,x<4294967296) (hy:∀ x∈ys,x<4294967296) (h1:xs.length≤k) (h2:ys.length≤k) :
  val o=val xs+val ys:=by
 have e:=h.val_eq
 have a1:=agR xs k hx
 have a2:=agR ys k hy
 rw [JW xs _ (by omega)] at e a1
 rw [JW ys _ (by omega)] at e a2
 have h3:=h.carry
 rw [Nat.pow_succ] at e
 have hB:0<4294967296^k:=Nat.pow_pos (by decide)
 generalize 4294967296^k=B at *
 have:c=0∨c=1:=by omega
 rcases this with rfl | rfl<;>omega
end Go.Proofs.YtnilonnkcbkdmaaGreatDoor
/- The document's own Sub. -/
namespace Go.Proofs.YtnilonnkcbkdmaaGreatDoor
open Go.RowKit
set_option linter.unusedVariables false
set_option maxHeartbeats 400000
attribute [local go_sem ↓] dH
attribute [local go_sem] aT
structure mK (xs ys:List Nat) (k:Nat) (o:List Nat) (c:Nat):Prop where
 len:o.length=k
 lt:∀ x∈o,x<4294967296
 carry:c≤1
 val_eq:val o+pv ys k=pv xs k+c*4294967296^k
theorem mK.start (xs ys:List Nat):mK xs ys 0 [] 0:=⟨rfl,by simp,by omega,rfl⟩
theorem mK.step {xs ys:List Nat} {k:Nat} {o:List Nat} {c:Nat} (h:mK xs ys k o c) (hx:∀ x∈xs,x<4294967296) (hy:∀ x∈ys,x<4294967296) :
  mK xs ys (k+1) (o++[(4294967296+lb xs k-lb ys k-c)%4294967296]) (1-(4294967296+lb xs k-lb ys k-c)/4294967296):=by
 have h1:=aQ hx k
 have h2:=aQ hy k
 have h3:=h.carry
 refine ⟨by simp [h.len],wD h.lt (Nat.mod_lt _ (by decide)),by omega,?_⟩
 rw [JX,Dg,Dg,h.len,Nat.pow_succ]
 have e:=h.val_eq
 generalize 4294967296^k=B at *
 generalize lb xs k=p at *
 generalize lb ys k=q at *
 obtain ⟨d,hd⟩:∃ d,(4294967296+p-q-c)%4294967296=d:=⟨_,rfl⟩
 obtain ⟨f,hf⟩:∃ f,1-(4294967296+p-q-c)/4294967296=f:=⟨_,rfl⟩
 have e3:d+q+c=p+f*4294967296:=by omega
 rw [hd,hf]
 have e4:(d+q+c)*B=(p+f*4294967296)*B:=by rw [e3]
 rw [Nat.add_mul,Nat.add_mul,Nat.add_mul] at e4
 have e5:f*(B*4294967296)=f*4294967296*B:=by
  rw [Nat.mul_comm B 4294967296,← Nat.mul_assoc]
 rw [e5]
 omega
theorem mK.done {xs ys:List Nat} {o:List Nat} {c:Nat} (h:mK xs ys xs.length o c) (hl:ys.length≤xs.length) (hge:val ys≤val xs):val o=val xs-val ys:=by
 have e:=h.val_eq
 rw [JW xs _ (Nat.le_refl _),JW ys _ hl] at e
 have hlt:=lM o h.lt
 rw [h.len] at hlt
 have hc:=h.carry
 generalize 4294967296^xs.length=B at *
 have:c=0∨c=1:=by omega
 rcases this with rfl | rfl<;>omega
end Go.Proofs.YtnilonnkcbkdmaaGreatDoor
/- The document's own Shl. -/
namespace Go.Proofs.YtnilonnkcbkdmaaGreatDoor
open Go.RowKit
set_option linter.unusedVariables false
set_option maxHeartbeats 400000
attribute [local go_sem ↓] dH
attribute [local go_sem] aT
structure jZ (xs:List Nat) (q P k:Nat) (o:List Nat) (c:Nat):Prop where
 len:o.length=q+k
 lt:∀ x∈o,x<4294967296
 carry:c<P
 val_eq:val o+c*4294967296^(q+k)=pv xs k*P*4294967296^q
theorem jZ.start (xs:List Nat) (q P:Nat) (hP:0<P):jZ xs q P 0 (List.replicate q 0) 0 :=
 ⟨by simp,by intro x hx;have:=List.eq_of_mem_replicate hx;omega,hP,by rw [bM,ajM];simp⟩
theorem jZ.step {xs:List Nat} {q P k:Nat} {o:List Nat} {c:Nat} (h:jZ xs q P k o c) (hx:∀ x∈xs,x<4294967296) :
  jZ xs q P (k+1) (o++[(lb xs k*P+c)%4294967296]) ((lb xs k*P+c)/4294967296):=by
 have h1:=aQ hx k
 have h3:=h.carry
 have h4:lb xs k*P+c<4294967296*P:=by
  have:=Nat.mul_le_mul_right P (show lb xs k+1≤4294967296 by omega)
  rw [Nat.add_mul] at this;omega
 refine ⟨by simp [h.len];omega,wD h.lt (Nat.mod_lt _ (by decide)),by rw [Nat.div_lt_iff_lt_mul (by decide),Nat.mul_comm P];exact h4,?_⟩
 rw [JX,Dg,h.len,← Nat.add_assoc,Nat.pow_succ,Nat.pow_add 4294967296 q k]
 have e:=h.val_eq
 rw [Nat.pow_add] at e
 generalize 4294967296^k=B at *
 generalize 4294967296^q=C at *
 obtain ⟨X,hX⟩:∃ X,lb xs k*P+c=X:=⟨_,rfl⟩
 have e3:X=X%4294967296+X/4294967296*4294967296:=by omega
 have e4:X*(C*B)=X%4294967296*(C*B)+X/4294967296*(C*B*4294967296):=by
  conv=>lhs;rw [e3]
  rw [Nat.add_mul,Nat.mul_assoc (X/4294967296),Nat.mul_comm 4294967296]
 have e5:X*(C*B)=lb xs k*P*(C*B)+c*(C*B):=by rw [← hX,Nat.add_mul]
 have e6:lb xs k*P*(C*B)=lb xs k*B*P*C:=by
  rw [Nat.mul_comm C B,← Nat.mul_assoc,Nat.mul_right_comm (lb xs k) P B]
 rw [hX,Nat.add_mul,Nat.add_mul]
 omega
theorem jZ.done {xs:List Nat} {q P k:Nat} {o:List Nat} {c:Nat} (h:jZ xs q P (k+1) o c) (hx:∀ x∈xs,x<4294967296) (h1:xs.length≤k) (hP:P<4294967296) :
  val o=val xs*P*4294967296^q:=by
 have e:=h.val_eq
 have a1:=agR xs k hx
 rw [JW xs _ (by omega)] at e a1
 have hc:c=0:=by
  rcases Nat.eq_zero_or_pos c with h0 | h0
  · exact h0
  · exfalso
    have b1:4294967296^(q+(k+1))≤c*4294967296^(q+(k+1)):=Nat.le_mul_of_pos_left _ h0
    have b2:val xs*P<4294967296^(k+1):=by
     rw [Nat.pow_succ]
     exact Nat.mul_lt_mul'' a1 hP
    have b3:val xs*P*4294967296^q<4294967296^(k+1)*4294967296^q:=Nat.mul_lt_mul_of_pos_right b2 (Nat.pow_pos (by decide))
    rw [← Nat.pow_add,Nat.add_comm (k+1) q] at b3
    omega
 subst hc
 omega
end Go.Proofs.YtnilonnkcbkdmaaGreatDoor
/- The contracts of the document's own functions, in one form. -/
namespace Go.Proofs.YtnilonnkcbkdmaaGreatDoor
open Go.RowKit
set_option linter.unusedVariables false
theorem iq (w:World) (v:Value) (xs:List Nat) (h:U w v xs) (hl:xs.length≤1000000000) (n:Nat) (hn:val xs=n) :
  Calls Tryz.prog 37 #[v] w fun e w'=>∃ u,e = .returned u∧Un w' u n∧Ext w w' :=
 (aW w v xs h hl).mono fun e w' ⟨⟨u,he,hu⟩,hw⟩=>⟨u,he,by rw [Un,← hn];exact hu,hw⟩
theorem Nu (w:World) (v u:Value) (n m:Nat) (h:Un w v n) (g:Un w u m) (hl:(limbs n).length≤1000000000) (hl2:(limbs m).length≤1000000000) (k:Int) (hk:bQ n m=k) :
  Calls Tryz.prog 35 #[v,u] w fun e w'=>e = .returned (.int .i64 k)∧Ext w w' :=
 (dK w v u _ _ h g hl hl2).mono fun e w' ⟨he,hw⟩=>⟨by rw [he,aG,aG,hk],by rw [← hw];exact Ext.refl w⟩
end Go.Proofs.YtnilonnkcbkdmaaGreatDoor
/- The document's calls in the laws of division, and live questions, whose answers are fixed. -/
namespace Go.Proofs.YtnilonnkcbkdmaaGreatDoor
open Go.RowKit
set_option linter.unusedVariables false
set_option maxHeartbeats 400000
theorem eZ (w:World) (v u:Value) (n m:Nat) (h:Un w v n) (g:Un w u m) (b:Bool) (hb:decide (n=m)=b) :
  Calls Tryz.prog 19 #[v,u] w fun e w'=>e = .returned (.bool b)∧Ext w w':=by
 refine alx w v u _ _ h g b ?_
 rw [← hb]
 refine decide_eq_decide.2 ⟨fun e=>?_,fun e=>by rw [e]⟩
 have:=congrArg val e
 rwa [aG,aG] at this
end Go.Proofs.YtnilonnkcbkdmaaGreatDoor
/- Whole numbers: quotients and rests. -/
namespace Go.Proofs.YtnilonnkcbkdmaaGreatDoor
open Go.RowKit
set_option linter.unusedVariables false
set_option maxHeartbeats 400000
theorem Mh (p q:Bool) (n m:Nat) (hm:m≠0) (h:p=false∨n%m=0):sg (!(p==q)) (n/m)=sg p n/sg q m∧((n%m:Nat):Int)=sg p n%sg q m:=by
 have e:=Nat.div_add_mod n m
 have hl:=Nat.mod_lt n (show m>0 by omega)
 have hd:(n:Int)/(m:Int)=((n/m:Nat):Int):=(Int.natCast_ediv n m).symm
 have hr:(n:Int)%(m:Int)=((n%m:Nat):Int):=(Int.natCast_emod n m).symm
 cases p
 · cases q
   · exact ⟨hd.symm,hr.symm⟩
   · constructor
     · show -((n/m:Nat):Int)=(n:Int) / -(m:Int)
       rw [Int.ediv_neg,hd]
     · show ((n%m:Nat):Int)=(n:Int) % -(m:Int)
       rw [Int.emod_neg,hr]
 · have h0:n%m=0:=by
    rcases h with h | h
    · cases h
    · exact h
   rw [h0] at e hr ⊢
   have e2:(n:Int)=(m:Int)*((n/m:Nat):Int):=by rw [← Int.natCast_mul];omega
   have key : -(n:Int)/(m:Int) = -((n/m:Nat):Int) ∧ -(n:Int)%(m:Int)=0:=by
    have:=(Int.ediv_emod_unique (a := -(n:Int)) (b:=(m:Int)) (q := -((n/m:Nat):Int)) (r:=0) (by omega)).2 ⟨by rw [Int.mul_neg,← e2];omega,by omega,by omega⟩
    exact this
   cases q
   · exact ⟨key.1.symm,key.2.symm⟩
   · constructor
     · show ((n/m:Nat):Int) = -(n:Int) / -(m:Int)
       rw [Int.ediv_neg,key.1,Int.neg_neg]
     · show ((0:Nat):Int) = -(n:Int) % -(m:Int)
       rw [Int.emod_neg,key.2];rfl
theorem Uy (q:Bool) (n m:Nat) (hm:m≠0) (h:n%m≠0):sg (!(true==q)) (n/m+1)=sg true n/sg q m∧((m-n%m:Nat):Int)=sg true n%sg q m:=by
 have e:=Nat.div_add_mod n m
 have hl:=Nat.mod_lt n (show m>0 by omega)
 have e2:(n:Int)=(m:Int)*((n/m:Nat):Int)+((n%m:Nat):Int):=by rw [← Int.natCast_mul];omega
 generalize n%m=r at *
 generalize n/m=d at *
 have hmr:((m-r:Nat):Int)=(m:Int)-(r:Int):=by omega
 have e3:(m:Int) * -((d+1:Nat):Int) = -((m:Int)*(d:Int))-(m:Int):=by
  rw [Int.natCast_add,Int.mul_neg,Int.mul_add];omega
 have key : -(n:Int)/(m:Int) = -((d+1:Nat):Int) ∧ -(n:Int)%(m:Int)=((m-r:Nat):Int):=by
  have:=(Int.ediv_emod_unique (a := -(n:Int)) (b:=(m:Int)) (q := -((d+1:Nat):Int)) (r:=((m-r:Nat):Int)) (by omega)).2 ⟨by rw [e3,hmr,e2];omega,by omega,by omega⟩
  exact this
 cases q
 · exact ⟨key.1.symm,key.2.symm⟩
 · constructor
   · show ((d+1:Nat):Int) = -(n:Int) / -(m:Int)
     rw [Int.ediv_neg,key.1,Int.neg_neg]
   · show ((m-r:Nat):Int) = -(n:Int) % -(m:Int)
     rw [Int.emod_neg,key.2]
theorem Ib.other {w:World} {N M:Nat} {b:Bool} {m:Value} (h:Ib w N b m) (hne:N≠M) (x y:Value):Ib ((w.setCell ⟨M,0,none⟩ x).setCell ⟨M,1,none⟩ y) N b m:=by
 obtain ⟨h0,h1,h2,h3,h4⟩:=h
 have hc:∀ a:Addr,a.block≠M→((w.setCell ⟨M,0,none⟩ x).setCell ⟨M,1,none⟩ y).cell? a=w.cell? a:=fun a ha=>by
  rw [World.cell?_setCell_other _ _ _ _ (fun e=>ha (by rw [← e])),World.cell?_setCell_other _ _ _ _ (fun e=>ha (by rw [← e]))]
 refine ⟨by simpa using h0,by rw [hc _ hne];exact h1,by rw [hc _ hne];exact h2,by go_simp,by go_simp⟩
def ZdD (w w':World) (e:Ending) (q r:Int):Prop:=(∃ x y,e = .returned (.tuple #[x,y,.int .i64 0])∧Zn w' x q∧Zn w' y r)∧Ext w w'
set_option maxRecDepth 100000 in
set_option maxHeartbeats 16000000 in
theorem AZ (w:World) (va vb:Value) (a b:Int) (ha:Zn w va a) (hb:Zn w vb b) (hl:(limbs a.natAbs).length≤1000) (hl2:(limbs b.natAbs).length≤1000) (h0:b≠0) (x y:Int) (hx:a/b=x) (hy:a%b=y) :
  Calls Tryz.prog 60 #[va,vb] w fun e w'=>ZdD w w' e x y:=by
 unfold ZdD
 obtain ⟨p,A,L,c,n,rfl,hu,hL,hz,-,hza,hzn⟩:=ha.open
 obtain ⟨q,B,K,d,m,rfl,hv,hK,hz2,-,xA,Fz⟩:=hb.open
 rw [hza] at hl
 rw [xA] at hl2
 have hm0:m≠0:=by omega
 obtain ⟨Q,hQ⟩:∃ Q,n/m=Q:=⟨_,rfl⟩
 obtain ⟨R,hR⟩:∃ R,n%m=R:=⟨_,rfl⟩
 have hQl:(limbs Q).length≤1000:=Nat.le_trans (gV (by rw [← hQ];exact Nat.div_le_self _ _)) hl
 have hRm:R<m:=by rw [← hR];exact Nat.mod_lt _ (by omega)
 have hRl:(limbs R).length≤1000:=Nat.le_trans (gV (by omega)) hl2
 have hE0:=((((Ext.refl w).alloc (.cells #[.bool p,.slice A L c] 27)).alloc (.cells #[.bool q,.slice B K d] 27)).alloc (.cells #[.bool false,.slice none 0 0] 27)).alloc (.cells #[.bool false,.slice none 0 0] 27)
 have hI0:=(Ib.aad w (.cells #[.bool p,.slice A L c] 27) (.cells #[.bool q,.slice B K d] 27) false (.slice none 0 0) 27).ext ((Ext.refl _).alloc (.cells #[.bool false,.slice none 0 0] 27))
 have hJ0:=Ib.aad (w.alloc (.cells #[.bool p,.slice A L c] 27)) (.cells #[.bool q,.slice B K d] 27) (.cells #[.bool false,.slice none 0 0] 27) false (.slice none 0 0) 27
 have hN:(w.alloc (.cells #[.bool p,.slice A L c] 27)).heap.size=w.heap.size+1:=by simp
 rw [hN] at hJ0
 have Dh:=(Ib.new w p (.slice A L c) 27).ext ((((Ext.refl _).alloc (.cells #[.bool q,.slice B K d] 27)).alloc (.cells #[.bool false,.slice none 0 0] 27)).alloc (.cells #[.bool false,.slice none 0 0] 27))
 have qj:=(Ib.new2 w (.cells #[.bool p,.slice A L c] 27) q (.slice B K d) 27).ext (((Ext.refl _).alloc (.cells #[.bool false,.slice none 0 0] 27)).alloc (.cells #[.bool false,.slice none 0 0] 27))
 have hD:=Lib.hid (qh _ (.slice A L c) (.slice B K d) n m Q R (hu.below hE0) (hv.below hE0) hl hl2 hm0 hQ hR)
 have hv0:=hv.below hE0
 have hcs:=Ej R
 obtain ⟨LR,hLR⟩:∃ L,(limbs R).length=L:=⟨_,rfl⟩
 have HLR:=Lib.hid hLR
 rw [hLR] at hcs
 by_cases hsp:p=true∧R≠0
 · obtain ⟨rfl,hR0⟩:=hsp
   obtain ⟨k1,k2⟩:=Uy q n m hm0 (by rw [hR];exact hR0)
   rw [hQ,← hz,← hz2,hx] at k1
   rw [hR,← hz,← hz2,hy] at k2
   have hAd:=Lib.hid (fun W v u h g=>afV W v u Q 1 h g (by omega) qi (Q+1) rfl)
   have hSb:=Lib.hid (fun W v h g=>afW W (.slice B K d) v m R h g (by omega) true (decide_eq_true (by omega)) (m-R) rfl)
   rw [show (!(true==q)) = !q by cases q<;>rfl] at k1
   have hM1:=Lib.hid (fun W v (h:Un W v (Q+1))=>tH W (!q) v (limbs (Q+1)) h (Q+1) (aG _) x k1)
   have hM2:=Lib.hid (fun W v (h:Un W v (m-R))=>tH W false v (limbs (m-R)) h (m-R) (aG _) y k2)
   have hlr:0<LR:=by omega
   have aG9:(0:Int)<(LR:Int):=by omega
   clear hl hl2 hza hzn xA Fz hz hz2 hL hK ha hb hu hv hN hx hy hQ hR h0 hm0 hcs hLR k1 k2 hRm hR0
   unfold Dv at hD
   go_enter Tryz.func60,Tryz.ntmps60
   go_upto_region 7 with (first
    | (go_at_call 58;refine hD.out.mono ?_;rintro e w2 ⟨⟨vq,vr,rfl,hvq,hvr⟩,hE2⟩;obtain ⟨A2,c2,rfl,-⟩:=Un.sh hvq;obtain ⟨A3,c3,rfl,-⟩:=Un.sh hvr;rw [HLR.out] at hvr ⊢;obtain ⟨p0,p1,p2,p3,p4⟩:=Dh.ext hE2)
    | (go_at_call 94;refine (hAd.out _ _ _ (Un.below hvq ((Ext.refl _).alloc _)) (jR _)).mono ?_;rintro e w4 ⟨u4,rfl,hu4,wZ⟩;have Q8:=((Ext.refl w2).alloc (.cells #[.int .u32 1] 43)).below wZ;obtain ⟨A4,c4,rfl,-⟩:=Un.sh hu4;obtain ⟨q0,q1,q2,q3,q4⟩:=(qj.ext hE2).ext Q8;have aAX:=Un.below hvr Q8;have hv4:=(Un.below hv0 hE2).below Q8)
    | (go_at_call 95;refine (hSb.out _ _ hv4 aAX).mono ?_;rintro e w5 ⟨u5,rfl,hu5,zS⟩;obtain ⟨A5,c5,rfl,-⟩:=Un.sh hu5;obtain ⟨p0,p1,p2,p3,p4⟩:=((Dh.ext hE2).ext Q8).ext zS;obtain ⟨q0,q1,q2,q3,q4⟩:=((qj.ext hE2).ext Q8).ext zS;have aAY:=Un.below hu4 zS))
   go_wp2_with (fail)
   refine (hM1.out _ _ aAY).mono ?_
   rintro e w6 ⟨u6,rfl,hz6,AL⟩
   obtain ⟨b6,A6,L6,c6,rfl⟩:=hz6.sh
   go_wp2_with (fail)
   refine (hM2.out _ _ (Un.below hu5 AL)).mono ?_
   rintro e w7 ⟨u7,rfl,hz7,hE7⟩
   obtain ⟨b7,A7,L7,c7,rfl⟩:=hz7.sh
   have hI7:=((((hI0.ext hE2).ext Q8).ext zS).ext AL).ext hE7
   have hJ7:=((((hJ0.ext hE2).ext Q8).ext zS).ext AL).ext hE7
   obtain ⟨i0,i1,i2,i3,i4⟩:=id hI7
   obtain ⟨j0,j1,j2,j3,j4⟩:=id hJ7
   have HI7:=Lib.hid hI7
   have HJ7:=Lib.hid hJ7
   have hZ6:=hz6.below hE7
   have hEE:=((((hE0.below hE2).below Q8).below zS).below AL).below hE7
   clear hI7 hJ7
   go_wp2
   (try simp only [Exit.inBlock,Exit.then])
   refine bodyPost_ret (v:=.tuple #[.agg #[.bool b6,.slice A6 L6 c6],.agg #[.bool b7,.slice A7 L7 c7],.int .i64 0]) (show (results _ _).run _ _=_ from ?_) rfl ⟨⟨_,_,rfl,(hZ6.jS HI7.out (dF _ _ _) _ _).jS (HJ7.out.other (by omega) _ _) (dF _ _ _) _ _,(hz7.jS HI7.out (dF _ _ _) _ _).jS (HJ7.out.other (by omega) _ _) (dF _ _ _) _ _⟩,(hEE.jS (by omega) _ _).jS (by omega) _ _⟩
   simp only [results]
   go_simp
 · have hpr:p=false∨R=0:=by
    cases p
    · exact .inl rfl
    · right
      rcases Nat.eq_zero_or_pos R with h | h
      · exact h
      · exact absurd ⟨rfl,by omega⟩ hsp
   obtain ⟨k1,k2⟩:=Mh p q n m hm0 (by rw [hR];exact hpr)
   rw [hQ,← hz,← hz2,hx] at k1
   rw [hR,← hz,← hz2,hy] at k2
   have hM1:=Lib.hid (fun W v (h:Un W v Q)=>tH W (!(p==q)) v (limbs Q) h Q (aG _) x k1)
   have hM2:=Lib.hid (fun W v (h:Un W v R)=>tH W false v (limbs R) h R (aG _) y k2)
   have hcase:p=false∨(p=true∧LR=0):=by
    rcases hpr with h | h
    · exact .inl h
    · cases p
      · exact .inl rfl
      · exact .inr ⟨rfl,by omega⟩
   clear hl hl2 hza hzn xA Fz hz hz2 hL hK ha hb hu hv hN hx hy hQ hR h0 hm0 hcs hLR k1 k2 hRm hsp hpr
   unfold Dv at hD
   rcases hcase with rfl | ⟨rfl,rfl⟩
   case' inl=>rw [show (!(false==q))=q by cases q<;>rfl] at hM1
   case' inr=>rw [show (!(true==q)) = !q by cases q<;>rfl] at hM1
   all_goals (
    go_enter Tryz.func60,Tryz.ntmps60
    go_upto_region 7 with (first
     | (go_at_call 58;refine hD.out.mono ?_;rintro e w5 ⟨⟨vq,vr,rfl,hvq,hvr⟩,zS⟩;obtain ⟨A2,c2,rfl,-⟩:=Un.sh hvq;obtain ⟨A3,c3,rfl,-⟩:=Un.sh hvr;rw [HLR.out] at hvr ⊢;obtain ⟨p0,p1,p2,p3,p4⟩:=Dh.ext zS;obtain ⟨q0,q1,q2,q3,q4⟩:=qj.ext zS))
    go_wp2_with (fail)
    refine (hM1.out _ _ hvq).mono ?_
    rintro e w6 ⟨u6,rfl,hz6,AL⟩
    obtain ⟨b6,A6,L6,c6,rfl⟩:=hz6.sh
    go_wp2_with (fail)
    refine (hM2.out _ _ (Un.below hvr AL)).mono ?_
    rintro e w7 ⟨u7,rfl,hz7,hE7⟩
    obtain ⟨b7,A7,L7,c7,rfl⟩:=hz7.sh
    have hI7:=((hI0.ext zS).ext AL).ext hE7
    have hJ7:=((hJ0.ext zS).ext AL).ext hE7
    obtain ⟨i0,i1,i2,i3,i4⟩:=id hI7
    obtain ⟨j0,j1,j2,j3,j4⟩:=id hJ7
    have HI7:=Lib.hid hI7
    have HJ7:=Lib.hid hJ7
    have hZ6:=hz6.below hE7
    have hEE:=((hE0.below zS).below AL).below hE7
    clear hI7 hJ7
    go_wp2
    (try simp only [Exit.inBlock,Exit.then])
    refine bodyPost_ret (v:=.tuple #[.agg #[.bool b6,.slice A6 L6 c6],.agg #[.bool b7,.slice A7 L7 c7],.int .i64 0]) (show (results _ _).run _ _=_ from ?_) rfl ⟨⟨_,_,rfl,(hZ6.jS HI7.out (dF _ _ _) _ _).jS (HJ7.out.other (by omega) _ _) (dF _ _ _) _ _,(hz7.jS HI7.out (dF _ _ _) _ _).jS (HJ7.out.other (by omega) _ _) (dF _ _ _) _ _⟩,(hEE.jS (by omega) _ _).jS (by omega) _ _⟩
    simp only [results]
    go_simp)
end Go.Proofs.YtnilonnkcbkdmaaGreatDoor
/- Whole numbers in the walk by plans: sizes, boxes, loads. -/
namespace Go.Proofs.YtnilonnkcbkdmaaGreatDoor
open Go.RowKit
set_option linter.unusedVariables false
set_option maxHeartbeats 400000
theorem fo:Tryz.prog.follows .mixedOrders=true:=by kernel_rfl
def Sz (z:Int) (K:Nat):Prop:=(limbs z.natAbs).length≤K
theorem Sz.le {z:Int} {K M:Nat} (h:Sz z K) (hk:K≤M):Sz z M:=Nat.le_trans h hk
theorem Sz.lit {z:Int} {K:Nat} (h:z.natAbs<4294967296) (hk:1≤K):Sz z K:=Nat.le_trans (iA (k:=1) (by rw [Nat.pow_one];exact h)) hk
theorem Sz.zero {K:Nat}:Sz 0 K:=by show (limbs 0).length≤K;rw [bf];exact Nat.zero_le _
theorem Sz.neg {z:Int} {K:Nat} (h:Sz z K):Sz (-z) K:=by show (limbs (-z).natAbs).length≤K;rw [Int.natAbs_neg];exact h
theorem Mk {z:Int} {K:Nat} (h:Sz z K):z.natAbs<4294967296^K:=bO h
theorem Sz.add {a b:Int} {K J M:Nat} (ha:Sz a K) (hb:Sz b J) (hk:K+1≤M) (hj:J+1≤M):Sz (a+b) M:=by
 obtain ⟨m,rfl⟩:∃ m,M=m+1:=⟨M-1,by omega⟩
 have h1:=Mk (ha.le (show K≤m by omega))
 have h2:=Mk (hb.le (show J≤m by omega))
 refine iA (show _<4294967296^(m+1) from ?_)
 rw [Nat.pow_succ]
 have h3:(a+b).natAbs≤a.natAbs+b.natAbs:=Int.natAbs_add_le a b
 omega
theorem Sz.sub {a b:Int} {K J M:Nat} (ha:Sz a K) (hb:Sz b J) (hk:K+1≤M) (hj:J+1≤M):Sz (a-b) M:=by
 rw [Int.sub_eq_add_neg];exact ha.add hb.neg hk hj
theorem Sz.mul {a b:Int} {K J M:Nat} (ha:Sz a K) (hb:Sz b J) (hk:K+J≤M):Sz (a*b) M:=by
 refine iA (show _<4294967296^M from ?_)
 rw [Int.natAbs_mul]
 have h1:=Mk ha
 have h2:=Mk hb
 refine Nat.lt_of_lt_of_le (Nat.mul_lt_mul'' h1 h2) ?_
 rw [← Nat.pow_add]
 exact Nat.pow_le_pow_right (by decide) hk
theorem Sz.of {z:Int} {K n:Nat} (hz:z.natAbs≤n) (h:(limbs n).length≤K):Sz z K:=iA (show _<4294967296^K from Nat.lt_of_le_of_lt hz (bO h))
theorem Ib.load {X:World} {N:Nat} {b:Bool} {m:Value} (h:Ib X N b m):(Instr.loadAt 27 (.pointer (some ⟨N,0,none⟩))).run Tryz.prog X = .ok (.agg #[.bool b,m]) X:=by
 obtain ⟨h0,h1,h2,h3,h4⟩:=h
 go_simp
theorem UC (w:World):(Instr.alloc 27 true (.tuple #[])).run Tryz.prog w = .ok (.pointer (some ⟨w.heap.size,0,none⟩)) (w.alloc (.cells #[.bool false,.slice none 0 0] 27)):=by go_simp
theorem Gp {w:World} {N:Nat} {b0:Bool} {A0:Option Addr} {n0 c0:Nat} (h:Ib w N b0 (.slice A0 n0 c0)) (b:Bool) (A:Option Addr) (n c:Nat) :
  (Instr.storeAt 27 (.pointer (some ⟨N,0,none⟩)) (.agg #[.bool b,.slice A n c])).run Tryz.prog w = .ok () ((w.setCell ⟨N,0,none⟩ (.bool b)).setCell ⟨N,1,none⟩ (.slice A n c))∧Ib ((w.setCell ⟨N,0,none⟩ (.bool b)).setCell ⟨N,1,none⟩ (.slice A n c)) N b (.slice A n c):=by
 obtain ⟨h0,h1,h2,h3,h4⟩:=h
 refine ⟨?_,?_,?_,?_,?_,?_⟩
 all_goals go_simp
theorem aah (d:Nat) (v:Value) (l:List (Nat × Value)):Pl.ig ((d,v)::l) (.tmp d)=some v:=by
 show Pl.look ((d,v)::l) d=_
 unfold Pl.look
 rw [Nat.beq_refl]
section
variable {L:List Oper} {S:World→Prop} {K:List (Nat × Value)→World→Prop} {i m d:Nat} {o:Oper} {x y:Operand} {r:List (Bool × Nat × Nat)} {l:List (Nat × Value)} {w:World} {b b0:Bool} {A A0:Option Addr} {n c n0 c0 N:Nat}
theorem bI (ho:Pl.nth L i=some o) (hp:o.op = .alloc 27) (hd:o.dst=some d) (hg:o.guard=none) (hS:∀ Y,Ext w Y→S Y)
  (h:∀ N w',Ext w w'→w.heap.size≤N→Ib w' N false (.slice none 0 0)→Pl.gY Tryz.prog L S K r ((d,.pointer (some ⟨N,0,none⟩))::l) w'):Pl.gY Tryz.prog L S K ((false,i,m)::r) l w:=by
 have e1:=(Ext.refl w).alloc (.cells #[.bool false,.slice none 0 0] 27)
 exact Pl.JC ho hp hd (by rw [hg];rfl) (UC w) (hS _ e1) (h _ _ e1 (Nat.le_refl _) (Ib.new w false (.slice none 0 0) 27))
theorem iP (ho:Pl.nth L i=some o) (hp:o.op = .store 27 x y) (hd:o.dst=none) (hg:o.guard=none) (hx:Pl.ig l x=some (.pointer (some ⟨N,0,none⟩))) (hy:Pl.ig l y=some (.agg #[.bool b,.slice A n c]))
  (hI:Ib w N b0 (.slice A0 n0 c0)) (hS:∀ Y,(∀ w0,Ext w0 w→w0.heap.size≤N→Ext w0 Y)→S Y)
  (h:∀ w',(∀ w0,Ext w0 w→w0.heap.size≤N→Ext w0 w')→(∀ v z,Zn w v z→Zn w' v z)→(∀ M b m,M≠N→Ib w M b m→Ib w' M b m)→Ib w' N b (.slice A n c)→Pl.gY Tryz.prog L S K r l w'):Pl.gY Tryz.prog L S K ((false,i,m)::r) l w:=by
 obtain ⟨r1,I1⟩:=Gp hI b A n c
 have T1:∀ w0,Ext w0 w→w0.heap.size≤N→Ext w0 ((w.setCell ⟨N,0,none⟩ (.bool b)).setCell ⟨N,1,none⟩ (.slice A n c)):=fun w0 h hN=>h.jS hN _ _
 exact Pl.bT ho hp hd (by rw [hg];rfl) hx hy r1 (hS _ T1) (h _ T1 (fun v z hz=>hz.jS hI (dF _ _ _) _ _) (fun M b m hne hM=>hM.other hne _ _) I1)
end
end Go.Proofs.YtnilonnkcbkdmaaGreatDoor
/- Rows of whole numbers as arguments, in the walk by plans. -/
namespace Go.Proofs.YtnilonnkcbkdmaaGreatDoor
open Go.RowKit
set_option linter.unusedVariables false
set_option maxHeartbeats 400000
def Io (w:World) (N o:Nat) (b:Bool) (m:Value):Prop:=N<w.heap.size∧w.cell? ⟨N,o,none⟩=some (.bool b)∧w.cell? ⟨N,o+1,none⟩=some m
theorem Io.ext {w w':World} {N o:Nat} {b:Bool} {m:Value} (h:Io w N o b m) (k:Ext w w'):Io w' N o b m:=by
 obtain ⟨h0,h1,h2⟩:=h
 exact ⟨Nat.lt_of_lt_of_le h0 k.size,(k.cell (p:=⟨N,o,none⟩) h0).trans h1,(k.cell (p:=⟨N,o+1,none⟩) h0).trans h2⟩
theorem Io.load {X:World} {N o:Nat} {b:Bool} {m:Value} (h:Io X N o b m):(Instr.loadAt 27 (.pointer (some ⟨N,o,none⟩))).run Tryz.prog X = .ok (.agg #[.bool b,m]) X:=by
 obtain ⟨h0,h1,h2⟩:=h
 go_simp
section
variable {L:List Oper} {S:World→Prop} {K:List (Nat × Value)→World→Prop} {k:Bool} {i m d:Nat} {o:Oper} {x:Operand} {r:List (Bool × Nat × Nat)} {l:List (Nat × Value)} {w:World} {b b1 b2:Bool} {A A1 A2:Option Addr} {n c n1 c1 n2 c2:Nat}
end
end Go.Proofs.YtnilonnkcbkdmaaGreatDoor
/- Small numbers in the walk by plans: comparisons, signs, products. -/
namespace Go.Proofs.YtnilonnkcbkdmaaGreatDoor
open Go.RowKit
set_option linter.unusedVariables false
set_option maxHeartbeats 400000
theorem fV {x y:Operand} {a b:Int} {v:Bool} (h:(a==b)=v) (X:World):(do eqGuard .eql 3 x y (.int .i64 a) (.int .i64 b);binOp .eql 3 (.int .i64 a) (.int .i64 b):Sem Value).run Tryz.prog X = .ok (.bool v) X:=by
 subst h;go_simp
theorem abN {x y:Operand} {a b:Int} {v:Bool} (h:(a != b)=v) (X:World):(do eqGuard .neq 3 x y (.int .i64 a) (.int .i64 b);binOp .neq 3 (.int .i64 a) (.int .i64 b):Sem Value).run Tryz.prog X = .ok (.bool v) X:=by
 subst h;go_simp
theorem rV {x y:Operand} {a b:Int} {v:Bool} (h:decide (b≤a)=v) (X:World):(do eqGuard .geq 3 x y (.int .i64 a) (.int .i64 b);binOp .geq 3 (.int .i64 a) (.int .i64 b):Sem Value).run Tryz.prog X = .ok (.bool v) X:=by
 subst h;go_simp
theorem akb {x y:Operand} {a b c:Int} (h:a*b=c) (h1 : -1000000≤c) (h2:c≤1000000) (X:World):(do eqGuard .mul 3 x y (.int .i64 a) (.int .i64 b);binOp .mul 3 (.int .i64 a) (.int .i64 b):Sem Value).run Tryz.prog X = .ok (.int .i64 c) X:=by
 have:IntKind.i64.wrap c=c:=IntWalk.i64_in _ (by omega)
 go_simp
theorem BN (a b:Int):Int.sign (a-b)=bQ a b:=by
 unfold bQ
 rcases Int.lt_trichotomy a b with h | h | h
 · rw [Int.sign_eq_neg_one_of_neg (by omega)];simp [h]
 · subst h;simp
 · rw [Int.sign_eq_one_of_pos (by omega)];simp [show ¬ a<b by omega,h]
theorem kY {x y:Operand} {a b:Int} {v:Bool} (h:decide (b<a)=v) (X:World):(do eqGuard .gtr 3 x y (.int .i64 a) (.int .i64 b);binOp .gtr 3 (.int .i64 a) (.int .i64 b):Sem Value).run Tryz.prog X = .ok (.bool v) X:=by
 subst h;go_simp
theorem Ib.mag {X:World} {N:Nat} {b:Bool} {m:Value} (h:Ib X N b m):(Instr.loadAt 22 (.pointer (some ⟨N,1,none⟩))).run Tryz.prog X = .ok m X:=by
 obtain ⟨h0,h1,h2,h3,h4⟩:=h
 go_simp
theorem Ib.neg {X:World} {N:Nat} {b:Bool} {m:Value} (h:Ib X N b m):(Instr.loadAt 4 (.pointer (some ⟨N,0,none⟩))).run Tryz.prog X = .ok (.bool b) X:=by
 obtain ⟨h0,h1,h2,h3,h4⟩:=h
 go_simp
theorem M6 (N:Nat) (X:World):(Instr.fieldAt 27 (.pointer (some ⟨N,0,none⟩)) 1).run Tryz.prog X = .ok (.pointer (some ⟨N,1,none⟩)) X:=by go_simp
section
variable {L:List Oper} {S:World→Prop} {K:List (Nat × Value)→World→Prop} {k:Bool} {i m d:Nat} {o:Oper} {x:Operand} {r:List (Bool × Nat × Nat)} {l:List (Nat × Value)} {w:World}
theorem bg {T:TypeId} {j:Nat} {p v:Value} (hS:S w) (ho:Pl.nth L i=some o) (hop:o.op = .fieldAddr T x j) (hd:o.dst=some d) (hg:Pl.gd L l o.guard=some true) (hx:Pl.ig l x=some p)
  (hr:∀ X,(Instr.fieldAt T p j).run Tryz.prog X = .ok v X) (h:Pl.gY Tryz.prog L S K r ((d,v)::l) w):Pl.gY Tryz.prog L S K ((k,i,m)::r) l w :=
 Pl.dV hS ho hd hg (fun ρ hρ X _=>by unfold execOp;rw [hop];exact Pl.mF _ X (by rw [hρ.ig hx];exact hr X)) h
theorem bG {A:Option Addr} {n c:Nat} (hS:S w) (ho:Pl.nth L i=some o) (hop:o.op = .call { callee:=.builtin .len,args:=#[x],argTypes:=#[22] }) (hd:o.dst=some d) (hg:Pl.gd L l o.guard=some true) (hx:Pl.ig l x=some (.slice A n c))
  (h:Pl.gY Tryz.prog L S K r ((d,.int .i64 (n:Int))::l) w):Pl.gY Tryz.prog L S K ((k,i,m)::r) l w :=
 Pl.dV hS ho hd hg (fun ρ hρ X _=>by
  obtain ⟨d',op',t',ps',axm,gu'⟩:=o
  cases hop
  have e:=hρ.ig hx
  simp [go_sem,e]) h
end
theorem Sz.div {a b:Int} {K:Nat} (h:Sz a K):Sz (a/b) K:=by
 refine iA (show _<4294967296^K from Nat.lt_of_le_of_lt (Int.natAbs_ediv_le_natAbs a b) (Mk h))
theorem Sz.mod {a b:Int} {K:Nat} (h:Sz b K) (h0:b≠0):Sz (a%b) K:=by
 refine iA (show _<4294967296^K from Nat.lt_of_le_of_lt ?_ (Mk h))
 have h1:=Int.emod_nonneg a h0
 have h2:=Int.emod_lt a h0
 omega
theorem Sz.mag {w:World} {v:Value} {xs:List Nat} (u:U w v xs) (b:Bool) (K:Nat) (hk:xs.length≤K):Sz (sg b (val xs)) K:=by
 show (limbs (sg b (val xs)).natAbs).length≤K
 rw [afU]
 have:=aga xs xs.length u.lim
 unfold dG at this
 rw [List.take_length] at this
 exact Nat.le_trans this hk
theorem jw {x y:Operand} {a b:Int} {v:Bool} (h:decide (a<b)=v) (X:World):(do eqGuard .lss 3 x y (.int .i64 a) (.int .i64 b);binOp .lss 3 (.int .i64 a) (.int .i64 b):Sem Value).run Tryz.prog X = .ok (.bool v) X:=by
 subst h;go_simp
theorem Zn.mag {w:World} {p:Bool} {A:Option Addr} {n c:Nat} {z:Int} (h:Zn w (.agg #[.bool p,.slice A n c]) z):Un w (.slice A n c) z.natAbs:=by
 obtain ⟨A',c',e,hu⟩:=h
 simp only [Value.agg.injEq,Array.mk.injEq,List.cons.injEq,Value.slice.injEq] at e
 obtain ⟨_,⟨rfl,rfl,rfl⟩,_⟩:=e
 exact hu
end Go.Proofs.YtnilonnkcbkdmaaGreatDoor
/- Small numbers reckoned, in the walk by plans. -/
namespace Go.Proofs.YtnilonnkcbkdmaaGreatDoor
open Go.RowKit
set_option linter.unusedVariables false
set_option maxHeartbeats 400000
section
variable {x y:Operand} {X:World}
theorem arP {a b c:Nat} {z:Int} (hz':z=(b:Int)) (h:a%b=c) (h0:0<b) (ha:a≤1000000) (hb:b≤1000000) (X:World):(do eqGuard .rem 3 x y (.int .i64 (a:Int)) (.int .i64 z);binOp .rem 3 (.int .i64 (a:Int)) (.int .i64 z):Sem Value).run Tryz.prog X = .ok (.int .i64 (c:Int)) X:=by
 subst hz'
 have e:Int.tmod (a:Int) (b:Int)=(c:Int):=by rw [← h];rfl
 have hc:c<b:=h ▸ Nat.mod_lt _ h0
 have w1:IntKind.i64.wrap (c:Int)=(c:Int):=IntWalk.i64_in _ (by omega)
 have hz:¬ ((b:Int)=0):=by omega
 have hn:¬ b=0:=by omega
 clear h hc
 go_simp
theorem mM {a b c:Int} (h:a+b=c) (h1 : -1000000000≤c) (h2:c≤1000000000) (X:World):(do eqGuard .add 3 x y (.int .i64 a) (.int .i64 b);binOp .add 3 (.int .i64 a) (.int .i64 b):Sem Value).run Tryz.prog X = .ok (.int .i64 c) X:=by
 have:IntKind.i64.wrap c=c:=IntWalk.i64_in _ (by omega)
 go_simp
theorem j6 {a b c:Int} (h:a-b=c) (h1 : -1000000000≤c) (h2:c≤1000000000) (X:World):(do eqGuard .sub 3 x y (.int .i64 a) (.int .i64 b);binOp .sub 3 (.int .i64 a) (.int .i64 b):Sem Value).run Tryz.prog X = .ok (.int .i64 c) X:=by
 have:IntKind.i64.wrap c=c:=IntWalk.i64_in _ (by omega)
 go_simp
section
variable {L:List Oper} {S:World→Prop} {K:List (Nat × Value)→World→Prop} {k:Bool} {i m d:Nat} {o:Oper} {r:List (Bool × Nat × Nat)} {l:List (Nat × Value)} {w:World}
theorem mI {s t:TypeId} {u v:Value} (hS:S w) (ho:Pl.nth L i=some o) (hop:o.op = .convert s t x) (hd:o.dst=some d) (hg:Pl.gd L l o.guard=some true) (hx:Pl.ig l x=some u)
  (hr:∀ X,(convert s t u).run Tryz.prog X = .ok v X) (h:Pl.gY Tryz.prog L S K r ((d,v)::l) w):Pl.gY Tryz.prog L S K ((k,i,m)::r) l w :=
 Pl.dV hS ho hd hg (fun ρ hρ X _=>by unfold execOp;rw [hop];exact Pl.mF _ X (by rw [hρ.ig hx];exact hr X)) h
end
end
theorem cO {L:List Oper} {S:World→Prop} {K:List (Nat × Value)→World→Prop} {i m d:Nat} {o:Oper} {x:Operand} {r:List (Bool × Nat × Nat)} {l:List (Nat × Value)} {w:World} {n:Nat} (hn:n<4294967296)
  (ho:Pl.nth L i=some o) (hp:o.op = .buildSlice 22 1 #[(0,x)]) (hd:o.dst=some d) (hg:Pl.gd L l o.guard=some true) (hx:Pl.ig l x=some (.int .u32 (n:Int))) (hS:∀ Y,Ext w Y→S Y)
  (h:∀ A w',Ext w w'→U w' (.slice A 1 1) [n]→Pl.gY Tryz.prog L S K r ((d,.slice A 1 1)::l) w'):Pl.gY Tryz.prog L S K ((false,i,m)::r) l w:=by
 have e1:=(Ext.refl w).alloc (.cells #[.int .u32 (n:Int)] 43)
 refine Pl.kU (w':=w.alloc (.cells #[.int .u32 (n:Int)] 43)) (v:=.slice (some ⟨w.heap.size,0,none⟩) 1 1) ho hd hg (fun ρ hρ=>?_) (hS _ e1) (h _ _ e1 ?_)
 · unfold execOp;rw [hp]
   refine Pl.jy _ ?_
   have e:=hρ.ig hx
   simp only [List.map_toArray,List.map_cons,List.map_nil]
   go_simp
 · refine ⟨some ⟨w.heap.size,0,none⟩,1,rfl,⟨Nat.le_refl _,by show 1≤_;decide⟩,fun x hx=>?_,fun _=>⟨⟨w.heap.size,0,none⟩,rfl,by simp,fun j hj=>?_⟩⟩
   · obtain rfl:x=n:=by simpa using hx
     exact hn
   · obtain rfl:j=0:=by simp at hj;omega
     have:lb [n] 0=n:=rfl
     go_simp
end Go.Proofs.YtnilonnkcbkdmaaGreatDoor
/- The document's division, bit by bit. -/
namespace Go.Proofs.YtnilonnkcbkdmaaGreatDoor
open Go.RowKit
set_option linter.unusedVariables false
set_option maxHeartbeats 400000
theorem aly (o:List Nat) (k:Nat) (hx:∀ x∈o,x<4294967296):lb o k=val o/4294967296^k%4294967296:=by
 rw [← OV o k hx]
 rcases Nat.lt_or_ge k o.length with h | h
 · rw [uz o k h,Nat.add_mul_mod_self_left,Nat.mod_eq_of_lt (aQ hx k)]
 · rw [kE h,List.drop_eq_nil_of_le h];rfl
structure oz (a b La j:Nat) (o:List Nat):Prop where
 len:o.length=La
 lt:∀ x∈o,x<4294967296
 val:val o=a/2^j/b*2^j
theorem Vo (a j:Nat):a/2^j=2*(a/2^(j+1))+a/2^j%2:=by
 rw [Nat.pow_succ,← Nat.div_div_eq_div_mul]
 exact (Nat.div_add_mod _ _).symm
theorem oz.none {a b La j:Nat} {o:List Nat} (h:oz a b La (j+1) o) (bit r:Nat) (hb:a/2^j%2=bit) (hr:a/2^(j+1)%b=r) (hlt:2*r+bit<b):oz a b La j o∧a/2^j%b=2*r+bit:=by
 have h1:=Vo a j
 rw [hb] at h1
 obtain ⟨h2,h3⟩:=alk (a/2^(j+1)) b bit _ r rfl hr hlt
 refine ⟨⟨h.len,h.lt,?_⟩,by rw [h1];exact h3⟩
 rw [h.val,h1,h2,Nat.pow_succ,Nat.mul_comm (2^j) 2,← Nat.mul_assoc,Nat.mul_comm _ 2]
theorem oz.more {a b La j:Nat} {o:List Nat} (h:oz a b La (j+1) o) (hb0:0<b) (bit r k s P x:Nat) (hb:a/2^j%2=bit) (hr:a/2^(j+1)%b=r) (hge:b≤2*r+bit) (hk:j/32=k) (hs:j%32=s) (hP:2^s=P) (hx:lb o k=x) (hkl:k<La) :
  x+P<4294967296∧oz a b La j (o.set k (x+P))∧a/2^j%b=2*r+bit-b:=by
 have h1:=Vo a j
 rw [hb] at h1
 have hbit:bit≤1:=by omega
 obtain ⟨h2,h3⟩:=ahg (a/2^(j+1)) b bit _ r hb0 hbit rfl hr hge
 have hjs:j+1=32*k+(s+1):=by omega
 have axS:s<32:=by omega
 have h4:=aly o k h.lt
 rw [h.val,hx,hjs,Nat.pow_add,MH,Nat.mul_comm (2^(32*k)),← Nat.mul_assoc,Nat.mul_div_cancel _ (Nat.two_pow_pos _)] at h4
 have h5:x+P<4294967296:=by
  obtain ⟨d,hd⟩:∃ d,32=s+1+d:=⟨31-s,by omega⟩
  have e1:(4294967296:Nat)=2^(s+1)*2^d:=by rw [← Nat.pow_add,← hd]
  generalize a/(2^(s+1)*2^(32*k))/b=Q at h4
  rw [e1,Nat.mul_comm Q,Nat.mul_mod_mul_left] at h4
  have e2:Q%2^d<2^d:=Nat.mod_lt _ (Nat.two_pow_pos _)
  have e3:2^(s+1)*(Q%2^d+1)≤2^(s+1)*2^d:=Nat.mul_le_mul_left _ e2
  have e4:2^(s+1)=P*2:=by rw [Nat.pow_succ,hP]
  have e5:0<P:=by rw [← hP];exact Nat.two_pow_pos _
  rw [Nat.mul_add,Nat.mul_one] at e3
  omega
 refine ⟨h5,⟨by simp [h.len],gm h.lt h5,?_⟩,by rw [h1];exact h3⟩
 have h6:=vS o k (x+P) (by rw [h.len];exact hkl)
 rw [hx,h.val,Nat.add_mul] at h6
 have h7:P*4294967296^k=2^j:=by rw [← hP,MH,← Nat.pow_add];congr 1;omega
 rw [h7] at h6
 have h8:a/2^j/b*2^j=a/2^(j+1)/b*2^(j+1)+2^j:=by
  rw [h1,h2,Nat.add_mul,Nat.one_mul,Nat.pow_succ,Nat.mul_comm (2^j) 2,← Nat.mul_assoc,Nat.mul_comm _ 2]
 rw [h8]
 omega
end Go.Proofs.YtnilonnkcbkdmaaGreatDoor
/- The same contracts, with where the answers lie: in blocks that the call has made. -/
namespace Go.Proofs.YtnilonnkcbkdmaaGreatDoor
open Go.RowKit
set_option linter.unusedVariables false
set_option maxHeartbeats 400000
set_option maxRecDepth 100000
attribute [local go_sem ↓] dH
attribute [local go_sem] aT
def d9 (b:Nat) (v:Value):Prop:=∀ (ad:Addr) (n c:Nat),v = .slice (some ad) n c→b≤ad.block
theorem d9.mono {b b':Nat} {v:Value} (h:d9 b v) (hb:b'≤b):d9 b' v:=fun ad n c e=>Nat.le_trans hb (h ad n c e)
theorem d9.mE (b n c:Nat):d9 b (.slice none n c):=fun ad n c e=>by cases e
theorem d9.sub {b n c:Nat} {A:Option Addr} (h:d9 b (.slice A n c)) (k c':Nat):d9 b (.slice A k c'):=fun ad n' c'' e=>by
 injection e with e1 e2 e3
 subst e1
 exact h ad n c rfl
theorem Own.fr {w:World} {base:Nat} {v:Value} {o:List Nat} (h:Own w base v o):d9 base v:=by
 rcases h.2 with hn | ⟨g,cap,cur,rfl,hb,_⟩
 · intro ad n c e
   rw [hn.1] at e;cases e
 · intro ad n c e
   injection e with e1 _ _
   injection e1 with e1
   subst e1
   exact hb
theorem U.apart {w w':World} {B b:Nat} {v:Value} {xs:List Nat} (h:U w v xs) (hf:d9 b v) (hB:B<b) (hb:But B w w'):U w' v xs:=by
 obtain ⟨A,c,rfl,hc,hx,hr⟩:=h
 refine ⟨A,c,rfl,hc,hx,fun h0=>?_⟩
 obtain ⟨ad,hA,hbk,hcell⟩:=hr h0
 subst hA
 have:=hf ad _ _ rfl
 exact ⟨ad,rfl,by have:=hb.size;omega,fun j hj=>(hb.cell (by rw [aM];exact hbk) (by rw [aM];omega)).trans (hcell j hj)⟩
end Go.Proofs.YtnilonnkcbkdmaaGreatDoor
/- Naturals in slices, in the walk by plans. -/
namespace Go.Proofs.YtnilonnkcbkdmaaGreatDoor
open Go.RowKit
set_option linter.all false
set_option maxRecDepth 100000
set_option maxHeartbeats 8000000
def Sn (n K:Nat):Prop:=(limbs n).length≤K
theorem Sn.le {n K M:Nat} (h:Sn n K) (hk:K≤M):Sn n M:=Nat.le_trans h hk
theorem Sn.zero {K:Nat}:Sn 0 K:=by show (limbs 0).length≤K;rw [bf];exact Nat.zero_le _
theorem Sn.lt {n K:Nat} (h:Sn n K):n<4294967296^K:=bO h
theorem Sn.of {n K:Nat} (h:n<4294967296^K):Sn n K:=iA h
theorem Sn.small {n K:Nat} (h:n<4294967296∧1≤K):Sn n K:=Nat.le_trans (iA (k:=1) (by rw [Nat.pow_one];exact h.1)) h.2
theorem Sn.down {n m K:Nat} (h:Sn n K) (hm:m≤n):Sn m K:=Sn.of (Nat.lt_of_le_of_lt hm h.lt)
theorem Sn.add {a b K J M:Nat} (ha:Sn a K) (hb:Sn b J) (hk:K+1≤M) (hj:J+1≤M):Sn (a+b) M:=by
 obtain ⟨m,rfl⟩:∃ m,M=m+1:=⟨M-1,by omega⟩
 have h1:=(ha.le (show K≤m by omega)).lt
 have h2:=(hb.le (show J≤m by omega)).lt
 refine Sn.of ?_
 rw [Nat.pow_succ]
 omega
theorem Sn.mul {a b K J M:Nat} (ha:Sn a K) (hb:Sn b J) (hk:K+J≤M):Sn (a*b) M:=by
 refine Sn.of (Nat.lt_of_lt_of_le (Nat.mul_lt_mul'' ha.lt hb.lt) ?_)
 rw [← Nat.pow_add]
 exact Nat.pow_le_pow_right (by decide) hk
theorem Sn.div {a b K:Nat} (h:Sn a K):Sn (a/b) K:=h.down (Nat.div_le_self _ _)
theorem Sn.mod {a b K:Nat} (h:Sn b K) (h0:b≠0):Sn (a%b) K:=h.down (Nat.le_of_lt (Nat.mod_lt _ (Nat.pos_of_ne_zero h0)))
theorem Sn.sz {n K:Nat} (h:Sn n K):Sz (n:Int) K:=h
theorem Un.nil (w:World) (A:Option Addr) (c:Nat):Un w (.slice A 0 c) 0:=by rw [Un,bf];exact U.mE _ _ _
theorem rC {n:Nat} (h:0<n):(0:Int)<((limbs n).length:Int):=by
 rw [eG (by omega)];simp
theorem pQ {n:Nat} (h:n=0):¬ (0:Int)<((limbs n).length:Int):=by
 subst h;rw [bf];simp
theorem dN {n:Nat}:(((limbs n).length:Int)==0)=decide (n=0):=by
 by_cases h:n=0
 · subst h;rw [bf];rfl
 · have:=rC (Nat.pos_of_ne_zero h)
   rw [decide_eq_false h,beq_eq_false_iff_ne];omega
theorem U.one {w:World} {v:Value} (h:U w v [1]):Un w v 1:=by
 show U w _ (limbs 1)
 have e:limbs 1=[1]:=by rw [eG (by decide),show (1:Nat)%4294967296=1 from rfl,show (1:Nat)/4294967296=0 from rfl,bf]
 rw [e];exact h
end Go.Proofs.YtnilonnkcbkdmaaGreatDoor
/- The document's greatest common divisor. -/
namespace Go.Proofs.YtnilonnkcbkdmaaGreatDoor
open Go.RowKit
set_option linter.all false
set_option maxRecDepth 100000
set_option maxHeartbeats 8000000
namespace EJ
set_option linter.all false
set_option maxRecDepth 100000
set_option maxHeartbeats 8000000
end EJ
open EJ
theorem rU (x y:Nat):Nat.gcd y (x%y)=Nat.gcd x y:=by rw [Nat.gcd_comm x y,Nat.gcd_rec y x,Nat.gcd_comm]
end Go.Proofs.YtnilonnkcbkdmaaGreatDoor
