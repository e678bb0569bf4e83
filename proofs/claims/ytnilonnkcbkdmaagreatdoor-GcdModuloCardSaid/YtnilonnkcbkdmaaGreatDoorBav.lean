/- Euclid's quotients, and cofactors put along them. -/
import Derived.Test.YtnilonnkcbkdmaaGreatDoorBas

namespace Go.Proofs.YtnilonnkcbkdmaaGreatDoor
open Go.RowKit
set_option linter.all false
set_option maxRecDepth 100000
set_option maxHeartbeats 8000000
def quo (a b:Nat):List Nat:=if h:b=0 then [] else (a/b)::quo b (a%b)
termination_by b
decreasing_by exact Nat.mod_lt _ (Nat.pos_of_ne_zero h)
theorem eY (a:Nat):quo a 0=[]:=by rw [quo];simp
theorem fH {a b:Nat} (h:b≠0):quo a b=(a/b)::quo b (a%b):=by rw [quo];simp [h]
theorem agc {a b q r:Nat} (h:a=q*b+r) (hr:r<b):quo a b=q::quo b r:=by
 have hb:b≠0:=by omega
 have hq:a/b=q:=by
  rw [h,Nat.mul_comm q b,Nat.mul_add_div (Nat.pos_of_ne_zero hb),Nat.div_eq_of_lt hr,Nat.add_zero]
 have hm:a%b=r:=by
  rw [h,Nat.mul_comm q b,Nat.mul_add_mod,Nat.mod_eq_of_lt hr]
 rw [fH hb,hq,hm]
def cf:List Nat→Int→Int→Int × Int
 | [],x,y=>(x,y)
 | k::l,x,y=>cf l y (x-k*y)
def cs:List Nat→Nat→Nat→Nat × Nat
 | [],p,q=>(p,q)
 | k::l,p,q=>cs l q (p+k*q)
theorem KQ (l m:List Nat) (p q:Nat):cs (l++m) p q=cs m (cs l p q).1 (cs l p q).2:=by
 induction l generalizing p q with
 | nil=>rfl
 | cons k l ih=>exact ih _ _
def alt (s:Bool) (p:Nat):Int:=if s then -(p:Int) else p
theorem BR (s:Bool) (p:Nat):(alt s p).natAbs=p:=by cases s<;>simp [alt]
theorem Vx (l:List Nat) (s:Bool) (p q:Nat):cf l (alt s p) (alt (!s) q)=(alt (s ^^ decide (l.length%2=1)) (cs l p q).1,alt (!(s ^^ decide (l.length%2=1))) (cs l p q).2):=by
 induction l generalizing s p q with
 | nil=>simp [cf,cs]
 | cons k l ih =>
  have e:alt s p-(k:Int)*alt (!s) q=alt (!(!s)) (p+k*q):=by
   cases s<;>simp [alt,Int.mul_neg]<;>omega
  have h:=ih (!s) q (p+k*q)
  show cf l (alt (!s) q) (alt s p-k*alt (!s) q)=_
  rw [e,h]
  have h3:((!s) ^^ decide (l.length%2=1))=(s ^^ decide ((k::l).length%2=1)):=by
   rcases Nat.mod_two_eq_zero_or_one l.length with h2 | h2
   · have h4:(k::l).length%2=1:=by rw [List.length_cons];omega
     cases s<;>simp only [h2,h4]<;>rfl
   · have h4:(k::l).length%2=0:=by rw [List.length_cons];omega
     cases s<;>simp only [h2,h4]<;>rfl
  rw [h3]
  rfl
def Cf (A M n m:Nat) (x y:Int):Prop:=∃ s p q,x=alt s p∧y=alt (!s) q∧n*q+m*p=A∧p≤M∧q≤M∧A≤M
theorem Cf.first {b M:Nat} (a:Nat) (hb:b≤M) (h1:1≤M):Cf b M a b 1 0:=⟨false,1,0,by simp [alt],by simp [alt],by omega,h1,Nat.zero_le _,hb⟩
theorem Cf.second {a M:Nat} (b:Nat) (ha:a≤M) (h1:1≤M):Cf a M a b 0 1:=⟨true,0,1,by simp [alt],by simp [alt],by omega,Nat.zero_le _,h1,ha⟩
theorem Cf.left {A M n m:Nat} {x y:Int} (h:Cf A M n m x y):x.natAbs≤M:=by
 obtain ⟨s,p,q,rfl,rfl,_,hp,_⟩:=h;rw [BR];exact hp
theorem Cf.right {A M n m:Nat} {x y:Int} (h:Cf A M n m x y):y.natAbs≤M:=by
 obtain ⟨s,p,q,rfl,rfl,_,_,hq,_⟩:=h;rw [BR];exact hq
theorem Cf.step {A M n m:Nat} {x y:Int} (h:Cf A M n m x y) (hm:m≠0):Cf A M m (n%m) y (x-(n/m:Nat)*y)∧(((n/m:Nat):Int)*y).natAbs≤M:=by
 obtain ⟨s,p,q,rfl,rfl,he,hp,hq,hA⟩:=h
 have e:alt s p-((n/m:Nat):Int)*alt (!s) q=alt (!(!s)) (p+n/m*q):=by
  cases s<;>simp [alt,Int.mul_neg]<;>omega
 have h1:m*(p+n/m*q)+n%m*q=A:=by
  have:=Nat.div_add_mod n m
  calc m*(p+n/m*q)+n%m*q=(m*(n/m)+n%m)*q+m*p:=by
        rw [Nat.mul_add,Nat.add_mul,Nat.mul_assoc];omega
   _=A:=by rw [this];exact he
 have h2:p+n/m*q≤A:=by
  have:1*(p+n/m*q)≤m*(p+n/m*q):=Nat.mul_le_mul_right _ (by omega)
  omega
 refine ⟨⟨!s,q,p+n/m*q,rfl,e,h1,hq,by omega,hA⟩,?_⟩
 rw [Int.natAbs_mul,BR,Int.natAbs_natCast]
 omega
end Go.Proofs.YtnilonnkcbkdmaaGreatDoor
/- Which of Euclid's quotients leading bits tell for certain (Collins' condition). -/
namespace Go.Proofs.YtnilonnkcbkdmaaGreatDoor
open Go.RowKit
set_option linter.all false
set_option maxRecDepth 100000
set_option maxHeartbeats 8000000
def sgn (e:Bool) (z:Int):Int:=if e then z else -z
def J6 (e:Bool) (a b u v:Nat):Int:=sgn e ((u:Int)*a-(v:Int)*b)
theorem JH (e:Bool) (a b u1 v1 u2 v2 h:Nat):J6 e a b (u1+h*u2) (v1+h*v2)=J6 e a b u1 v1-h*J6 (!e) a b u2 v2:=by
 have e1:((u1+h*u2:Nat):Int)*a=u1*a+h*(u2*a):=by rw [Int.natCast_add,Int.natCast_mul,Int.add_mul,Int.mul_assoc]
 have e2:((v1+h*v2:Nat):Int)*b=v1*b+h*(v2*b):=by rw [Int.natCast_add,Int.natCast_mul,Int.add_mul,Int.mul_assoc]
 cases e
 · simp only [J6,sgn,Bool.not_false,if_true,Bool.false_eq_true,if_false]
   rw [e1,e2,Int.mul_sub];omega
 · simp only [J6,sgn,Bool.not_true,if_true,Bool.false_eq_true,if_false]
   rw [e1,e2,Int.mul_neg,Int.mul_sub];omega
structure Gu (A B:Nat) (e:Bool) (u1 v1 u2 v2 x y:Nat):Prop where
 hx:(x:Int)=J6 e A B u1 v1
 hy:(y:Int)=J6 (!e) A B u2 v2
 le2:u2≤v2
 pos:1≤v2
 le1:u1≤v1∨(e=true∧u1=1∧v1=0∧u2=0)
 sum:v2*x+v1*y=A
 le:y≤x
 grow:v1≤v2
theorem Gu.first {A B:Nat} (h:B≤A):Gu A B true 1 0 0 1 A B :=
 ⟨by simp [J6,sgn],by simp [J6,sgn],by omega,by omega,.inr ⟨rfl,rfl,rfl,rfl⟩,by omega,h,by omega⟩
theorem Gu.sure {A B a b T a0 b0 u1 v1 u2 v2 x y:Nat} {e:Bool} (h:Gu A B e u1 v1 u2 v2 x y) (ha:a=A*T+a0) (hb:b=B*T+b0) (h0:a0<T) (h1:b0<T) (c1:v2≤y) (c2:v1+v2≤x-y) :
  0≤J6 (!e) a b u2 v2∧J6 (!e) a b u2 v2<J6 e a b u1 v1:=by
 obtain ⟨hx,hy,le2,pos,le1,_,le,_⟩:=h
 have ea:∀ u:Nat,(u:Int)*a=u*A*T+u*a0:=fun u=>by rw [ha,Int.natCast_add,Int.natCast_mul,Int.mul_add,Int.mul_assoc]
 have eb:∀ v:Nat,(v:Int)*b=v*B*T+v*b0:=fun v=>by rw [hb,Int.natCast_add,Int.natCast_mul,Int.mul_add,Int.mul_assoc]
 have hyT:(y:Int)*T≥v2*T:=Int.mul_le_mul_of_nonneg_right (by omega) (by omega)
 have ajt:((x:Int)-y)*T≥(v1+v2)*T:=Int.mul_le_mul_of_nonneg_right (by omega) (by omega)
 have p2:(u2:Int)*a0≤v2*T:=Int.mul_le_mul (by omega) (by omega) (by omega) (by omega)
 have p3:(v2:Int)*b0≤v2*T:=Int.mul_le_mul_of_nonneg_left (by omega) (by omega)
 have p4:((v1:Int)+v2)*b0<(v1+v2)*T:=Int.mul_lt_mul_of_pos_left (by omega) (by omega)
 have n1:(0:Int)≤u1*a0:=Int.mul_nonneg (by omega) (by omega)
 have n2:(0:Int)≤u2*a0:=Int.mul_nonneg (by omega) (by omega)
 have n3:(0:Int)≤v1*b0:=Int.mul_nonneg (by omega) (by omega)
 have n4:(0:Int)≤v2*b0:=Int.mul_nonneg (by omega) (by omega)
 cases e
 · have hle:u1≤v1:=by
    rcases le1 with h | ⟨h,_⟩
    · exact h
    · cases h
   have p5:((u1:Int)+u2)*a0≤(v1+v2)*a0:=Int.mul_le_mul_of_nonneg_right (by omega) (by omega)
   have p6:((v1:Int)+v2)*a0<(v1+v2)*T:=Int.mul_lt_mul_of_pos_left (by omega) (by omega)
   simp only [J6,sgn,Bool.not_false,if_true,Bool.false_eq_true,if_false] at hx hy ⊢
   rw [ea,ea,eb,eb]
   have hxT:(x:Int)*T=v1*B*T-u1*A*T:=by rw [hx,Int.neg_sub,Int.sub_mul]
   have agd:(y:Int)*T=u2*A*T-v2*B*T:=by rw [hy,Int.sub_mul]
   rw [Int.sub_mul,hxT,agd] at ajt
   rw [agd] at hyT
   rw [Int.add_mul] at p5 p6 ajt p4
   rw [Int.add_mul] at p5
   rw [Int.add_mul] at p6 p4
   generalize (u1:Int)*A*T=z1 at *
   generalize (u2:Int)*A*T=z2 at *
   generalize (v1:Int)*B*T=z3 at *
   generalize (v2:Int)*B*T=z4 at *
   generalize (u1:Int)*a0=z5 at *
   generalize (u2:Int)*a0=z6 at *
   generalize (v1:Int)*b0=z7 at *
   generalize (v2:Int)*b0=z8 at *
   generalize (v1:Int)*T=z9 at *
   generalize (v2:Int)*T=z10 at *
   generalize (v1:Int)*a0=z11 at *
   generalize (v2:Int)*a0=z12 at *
   omega
 · simp only [J6,sgn,Bool.not_true,if_true,Bool.false_eq_true,if_false] at hx hy ⊢
   rw [ea,ea,eb,eb]
   have hxT:(x:Int)*T=u1*A*T-v1*B*T:=by rw [hx,Int.sub_mul]
   have agd:(y:Int)*T=v2*B*T-u2*A*T:=by rw [hy,Int.neg_sub,Int.sub_mul]
   rw [Int.sub_mul,hxT,agd] at ajt
   rw [agd] at hyT
   rw [Int.add_mul] at p4 ajt
   rw [Int.add_mul] at p4
   generalize (u1:Int)*A*T=z1 at *
   generalize (u2:Int)*A*T=z2 at *
   generalize (v1:Int)*B*T=z3 at *
   generalize (v2:Int)*B*T=z4 at *
   generalize (u1:Int)*a0=z5 at *
   generalize (u2:Int)*a0=z6 at *
   generalize (v1:Int)*b0=z7 at *
   generalize (v2:Int)*b0=z8 at *
   generalize (v1:Int)*T=z9 at *
   generalize (v2:Int)*T=z10 at *
   omega
theorem Gu.next {A B u1 v1 u2 v2 x y:Nat} {e:Bool} (h:Gu A B e u1 v1 u2 v2 x y) (c1:v2≤y):Gu A B (!e) u2 v2 (u1+x/y*u2) (v1+x/y*v2) y (x%y):=by
 obtain ⟨hx,hy,le2,pos,le1,sum,le,grow⟩:=h
 have hy0:0<y:=by omega
 have hq:1≤x/y:=(Nat.one_le_div_iff hy0).2 le
 have hd:=Nat.div_add_mod x y
 have hm:=Nat.mod_lt x hy0
 have p1:x/y*u2≤x/y*v2:=Nat.mul_le_mul_left _ le2
 have p2:1*v2≤x/y*v2:=Nat.mul_le_mul_right _ hq
 refine ⟨hy,?_,?_,by omega,.inl le2,?_,by omega,by omega⟩
 · rw [Bool.not_not,JH,← hx,← hy]
   have:(x:Int)=(y:Int)*((x/y:Nat):Int)+((x%y:Nat):Int):=by rw [← Int.natCast_mul,← Int.natCast_add,hd]
   rw [Int.mul_comm (y:Int)] at this
   omega
 · rcases le1 with h | ⟨_,h1,h2,h3⟩
   · omega
   · subst h1 h2 h3;omega
 · calc (v1+x/y*v2)*y+v2*(x%y)=v2*(y*(x/y)+x%y)+v1*y:=by
         rw [Nat.add_mul,Nat.mul_add,Nat.mul_comm (x/y) v2,Nat.mul_assoc,Nat.mul_comm (x/y) y];omega
    _=A:=by rw [hd];exact sum
theorem Gu.small {A B u1 v1 u2 v2 x y:Nat} {e:Bool} (h:Gu A B e u1 v1 u2 v2 x y) (hA:A<18446744073709551616) (c1:v2≤y) (c2:v1+v2≤x-y) :
  v2<4294967296∧v1+v2≤A∧x≤A∧v1+x/y*v2≤A:=by
 have h':=h.next c1
 obtain ⟨hx,hy,le2,pos,le1,sum,le,grow⟩:=h
 have p1:v2*v2≤v2*x:=Nat.mul_le_mul_left _ (by omega)
 have p2:1*x≤v2*x:=Nat.mul_le_mul_right _ pos
 have p3:=h'.sum
 have p4:(v1+x/y*v2)*1≤(v1+x/y*v2)*y:=Nat.mul_le_mul_left _ (by omega)
 refine ⟨?_,by omega,by omega,by omega⟩
 rcases Nat.lt_or_ge v2 4294967296 with h | h
 · exact h
 · have:=Nat.mul_le_mul h h
   omega
end Go.Proofs.YtnilonnkcbkdmaaGreatDoor
/- What a guess by leading bits has told, and the rows that it leaves. -/
namespace Go.Proofs.YtnilonnkcbkdmaaGreatDoor
open Go.RowKit
set_option linter.all false
set_option maxRecDepth 100000
set_option maxHeartbeats 8000000
theorem Vy (x y:Nat):Nat.gcd y (x%y)=Nat.gcd x y:=by rw [Nat.gcd_comm x y,Nat.gcd_rec y x,Nat.gcd_comm]
theorem XF (l:List Nat) (k p q:Nat):cs (l++[k]) p q=((cs l p q).2,(cs l p q).1+k*(cs l p q).2):=by rw [KQ];rfl
structure Tl (a b:Nat) (l:List Nat) (e:Bool) (u0 u1 v0 v1 P Q:Nat):Prop where
 told:quo a b=l++quo P Q
 us:cs l 1 0=(u0,u1)
 vs:cs l 0 1=(v0,v1)
 par:e=decide (l.length%2=0)
 hP:(P:Int)=J6 e a b u0 v0
 hQ:(Q:Int)=J6 (!e) a b u1 v1
 sum:v1*P+v0*Q=a
 gcd:Nat.gcd P Q=Nat.gcd a b
 qle:Q≤b∧(l≠[]→Q<b)
 ple:P≤max a b
theorem Tl.first (a b:Nat):Tl a b [] true 1 0 0 1 a b:=⟨rfl,rfl,rfl,rfl,by simp [J6,sgn],by simp [J6,sgn],by omega,rfl,⟨Nat.le_refl _,fun h=>absurd rfl h⟩,by omega⟩
theorem Tl.snoc {a b:Nat} {l:List Nat} {e:Bool} {u0 u1 v0 v1 P Q:Nat} (h:Tl a b l e u0 u1 v0 v1 P Q) {q R:Nat} (hq:P=q*Q+R) (hR:R<Q):Tl a b (l++[q]) (!e) u1 (u0+q*u1) v1 (v0+q*v1) Q R:=by
 obtain ⟨told,us,vs,par,hP,hQ,sum,abd,aHb,aHc⟩:=h
 have hp:(!e)=decide ((l++[q]).length%2=0):=by
  rw [List.length_append,List.length_singleton,par]
  rcases Nat.mod_two_eq_zero_or_one l.length with h2 | h2
  · have h4:(l.length+1)%2=1:=by omega
    simp only [h2,h4];rfl
  · have h4:(l.length+1)%2=0:=by omega
    simp only [h2,h4];rfl
 refine ⟨?_,?_,?_,hp,hQ,?_,?_,?_,⟨by omega,fun _=>by omega⟩,by omega⟩
 · rw [told,agc hq hR,List.append_assoc];rfl
 · rw [XF,us]
 · rw [XF,vs]
 · rw [Bool.not_not,JH,← hP,← hQ]
   have:(P:Int)=(q:Int)*(Q:Int)+(R:Int):=by rw [hq,Int.natCast_add,Int.natCast_mul]
   omega
 · rw [← sum,hq,Nat.add_mul,Nat.mul_add,Nat.mul_comm q v1,Nat.mul_assoc];omega
 · rw [← abd,← Vy P Q,show P%Q=R from by rw [hq,Nat.mul_comm q Q,Nat.mul_add_mod,Nat.mod_eq_of_lt hR]]
theorem Tl.div {a b:Nat} {l:List Nat} {e:Bool} {u0 u1 v0 v1 P Q:Nat} (h:Tl a b l e u0 u1 v0 v1 P Q) (hQ:Q≠0):Tl a b (l++[P/Q]) (!e) u1 (u0+P/Q*u1) v1 (v0+P/Q*v1) Q (P%Q):=by
 refine h.snoc ?_ (Nat.mod_lt _ (Nat.pos_of_ne_zero hQ))
 rw [Nat.mul_comm];exact (Nat.div_add_mod P Q).symm
structure Gh (a b A B:Nat) (l:List Nat) (e:Bool) (u0 u1 u2 v0 v1 v2 held x y:Nat):Prop where
 tl:∃ P Q,Tl a b l e u0 u1 v0 v1 P Q
 hu:u2=u0+held*u1
 hv:v2=v0+held*v1
 gu:Gu A B (!e) u1 v1 u2 v2 x y
 b0:u0<4294967296∧v0<4294967296
 b1:u1<4294967296∧v1<4294967296
 one:1≤v1
 z:l≠[]→1≤v0
theorem Gh.first {a b A B T a0 b0:Nat} (hAB:B≤A) (hA:A<18446744073709551616) (c1:1≤B) (c2:1≤A-B):Gh a b A B [] true 1 0 (1+A/B*0) 0 1 (0+A/B*1) (A/B) B (A%B):=by
 have h:=Gu.first hAB
 exact ⟨⟨a,b,Tl.first a b⟩,by omega,by omega,h.next c1,by omega,by omega,by omega,fun h=>absurd rfl h⟩
theorem Gh.next {a b A B T a0 b0:Nat} {l:List Nat} {e:Bool} {u0 u1 u2 v0 v1 v2 held x y:Nat} (h:Gh a b A B l e u0 u1 u2 v0 v1 v2 held x y) (ha:a=A*T+a0) (hb:b=B*T+b0) (h0:a0<T) (h1:b0<T)
  (hA:A<18446744073709551616) (c1:v2≤y) (c2:v1+v2≤x-y):Gh a b A B (l++[held]) (!e) u1 u2 (u1+x/y*u2) v1 v2 (v1+x/y*v2) (x/y) y (x%y):=by
 obtain ⟨⟨P,Q,tl⟩,hu,hv,gu,b0',b1,one,z⟩:=h
 have hs:=gu.sure ha hb h0 h1 c1 c2
 have hm:=gu.small hA c1 c2
 have hn:=gu.next c1
 rw [Bool.not_not] at hs
 have hR:J6 e a b u2 v2=(P:Int)-held*Q:=by rw [hu,hv,JH,← tl.hP,← tl.hQ]
 rw [hR,← tl.hQ] at hs
 obtain ⟨R,hr⟩:∃ R:Nat,(R:Int)=(P:Int)-held*Q:=⟨((P:Int)-held*Q).toNat,Int.toNat_of_nonneg hs.1⟩
 rw [← hr] at hs
 have hPQ:P=held*Q+R:=by
  have:(P:Int)=((held*Q+R:Nat):Int):=by rw [Int.natCast_add,Int.natCast_mul];omega
  omega
 have t2:=tl.snoc hPQ (by omega)
 rw [← hu,← hv] at t2
 have l2:=gu.le2
 exact ⟨⟨Q,R,t2⟩,rfl,rfl,hn,b1,by omega,by have:=gu.pos;omega,fun _=>one⟩
theorem Gh.none {a b A B:Nat} {l:List Nat} {e:Bool} {u0 u1 u2 v0 v1 v2 held x y:Nat} (h:Gh a b A B l e u0 u1 u2 v0 v1 v2 held x y):v0=0↔l=[]:=by
 constructor
 · intro hv
   cases l with
   | nil=>rfl
   | cons k l=>have:=h.z (by simp);omega
 · rintro rfl
   obtain ⟨_,_,tl⟩:=h.tl
   have:=tl.vs
   exact (Prod.mk.inj this).1.symm
end Go.Proofs.YtnilonnkcbkdmaaGreatDoor
