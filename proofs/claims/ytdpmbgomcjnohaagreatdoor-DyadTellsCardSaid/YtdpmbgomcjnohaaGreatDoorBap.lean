/- Division by school, and whatever goes to it. -/
import Derived.Test.YtdpmbgomcjnohaaGreatDoorBao
import Derived.Test.YtdpmbgomcjnohaaGreatDoorBag
import Derived.Test.YtdpmbgomcjnohaaGreatDoorBam
import Derived.Test.YtdpmbgomcjnohaaGreatDoorBaj
import Derived.Laws.IdiomArrays
import Derived.WideKeyPair
import Derived.WideKeyArr2

namespace Go.Proofs.YtdpmbgomcjnohaaGreatDoor
open Go.RowKit
set_option linter.unusedVariables false
set_option maxHeartbeats 400000
theorem Np {b:Nat} (h:(limbs b).length=1):b<4294967296∧b≠0∧lb (limbs b) 0=b:=by
 have h1:=cO (show (limbs b).length≤1 by omega)
 rw [Nat.pow_one] at h1
 have h0:b≠0:=by
  intro e;rw [e,aX] at h;simp at h
 refine ⟨h1,h0,?_⟩
 rw [nQ,Nat.pow_zero,Nat.div_one,Nat.mod_eq_of_lt h1]
theorem rQ {b:Nat} (h:b≠0):0<(limbs b).length:=by
 rcases Nat.eq_zero_or_pos (limbs b).length with e | e
 · exact absurd (wK.1 (List.length_eq_zero_iff.1 e)) h
 · exact e
def Dv (w w':World) (e:Ending) (q r:Nat):Prop:=(∃ x y,e = .returned (.tuple #[x,y,.int .i64 0])∧Un w' x q∧Un w' y r)∧Ext w w'
set_option maxRecDepth 100000 in
set_option maxHeartbeats 8000000 in
theorem O1 (w:World) (va vb:Value) (a b q r:Nat) (ha:Un w va a) (hb:Un w vb b) (hla:(limbs a).length≤1000) (hlb:(limbs b).length≤1000) (h0:b≠0) (hq:a/b=q) (hr:a%b=r) :
  Calls Tryz.prog 164 #[va,vb] w fun e w'=>Dv w w' e q r:=by
 unfold Dv
 have hnz:=rQ h0
 obtain ⟨Ab,cb,rfl,hcb⟩:=U.shape (U.fM hb)
 obtain ⟨L,hL⟩:∃ L,(limbs b).length=L:=⟨_,rfl⟩
 obtain ⟨k,hk⟩:∃ k,bZ (a:Int) (b:Int)=k:=⟨_,rfl⟩
 have JE:=Lib.hid (Vy w va _ a b ha hb k hk)
 have hb2:=hb
 rw [hL] at hnz hlb hb2 JE ⊢
 have hL0:((L:Int)==0)=false:=by rw [beq_eq_false_iff_ne];omega
 have abS:¬ L=0:=by omega
 have uL:=Ext.refl w
 rcases Nat.lt_or_ge a b with hlt | hge
 · have hq0:q=0:=by rw [← hq];exact Nat.div_eq_of_lt hlt
   have hr0:r=a:=by rw [← hr];exact Nat.mod_eq_of_lt hlt
   have hk1:k = -1:=by rw [← hk];exact kV (by omega)
   subst hq0 hr0 hk1
   clear hq hr hk hlt hb hb2 hL hcb hla hlb
   go_enter Tryz.func164,Tryz.ntmps164
   go_wp2_with (fail)
   refine JE.out.mono ?_
   rintro e w1 ⟨rfl,hB⟩
   replace ha:=U.below (U.fM ha) hB
   replace uL:=uL.below hB
   have HF:Hid (∃ x y,Ending.returned (.tuple #[.slice none 0 0,va,.int .i64 0]) = .returned (.tuple #[x,y,.int .i64 0])∧Un w1 x 0∧Un w1 y r):=⟨_,_,rfl,JF _,ha⟩
   clear hB JE ha
   go_wp2
   go_ret3
   exact ⟨HF.out,uL⟩
 · have hk1:¬ k<0:=by
    rw [← hk]
    rcases Nat.lt_or_ge b a with h | h
    · rw [lZ (by omega)];decide
    · rw [show a=b by omega,qC];decide
   have hk2:decide (k<0)=false:=by rw [decide_eq_false_iff_not];exact hk1
   by_cases h1:L=1
   · obtain ⟨b1,b2,b3⟩:=Np (hL.trans h1)
     have hS:=Lib.hid (fun W (h:Un W va a)=>GH W va a b h (by omega) b1 h0 q r hq hr)
     have hL1:((L:Int)==1)=true:=by rw [beq_iff_eq];omega
     obtain ⟨ad,rfl,hbk,hcell⟩:∃ ad,Ab=some ad∧ad.block<w.heap.size∧w.cell? ad=some (.int .u32 (b:Nat)):=by
      obtain ⟨A',c',hv,_,_,hr'⟩:=hb
      obtain ⟨ad,e1,e2,e3⟩:=hr' (by omega)
      injection hv with hv1
      have:=e3 0 (by omega)
      rw [iF,b3] at this
      exact ⟨ad,by rw [hv1,e1],e2,this⟩
     have hrb:r<4294967296:=by rw [← hr];exact Nat.lt_trans (Nat.mod_lt _ (by omega)) b1
     have HRB:=Lib.hid hrb
     subst h1
     clear hq hr hk hge b1 b2 b3 hb hb2 hL hla hlb h0 hrb abS
     go_enter Tryz.func164,Tryz.ntmps164
     go_wp2_with (fail)
     refine JE.out.mono ?_
     rintro e w1 ⟨rfl,hB⟩
     replace ha:=U.below (U.fM ha) hB
     replace uL:=uL.below hB
     have hcell1:=(hB.cell (p:=ad) hbk).trans hcell
     clear hB JE hcell
     go_wp2_with (fail)
     refine (hS.out _ ha).mono ?_
     rintro e w2 ⟨⟨x,rfl,hx⟩,hB⟩
     replace uL:=uL.below hB
     have HU:Hid (U (w2.alloc (.cells #[.int .u32 (r:Nat)] 67)) (.slice (some ⟨w2.heap.size,0,none⟩) 1 1) [r]):=LP w2 [r] (by simpa using HRB.out) (by simp)
     have YU:Hid (∀ W v,U W v [r]→Calls Tryz.prog 125 #[v] W fun e w'=>∃ u,e = .returned u∧Un w' u r∧Ext W w'):=fun W v h=>EI W v [r] h r (by simp [val])
     clear hB hS hcell1 ha
     go_wp2_with (fail)
     refine (YU.out _ _ HU.out).mono ?_
     rintro e w3 ⟨y,rfl,hy,hB⟩
     have HF:Hid (∃ x' y',Ending.returned (.tuple #[x,y,.int .i64 0]) = .returned (.tuple #[x',y',.int .i64 0])∧Un w3 x' q∧Un w3 y' r):=⟨_,_,rfl,U.below (U.alloc (U.fM hx) _) hB,hy⟩
     have TE:=(uL.alloc _).below hB
     clear hx hy hB HU YU uL
     go_wp2
     go_ret3
     exact ⟨HF.out,TE⟩
   · have hL1:((L:Int)==1)=false:=by rw [beq_eq_false_iff_ne];omega
     have hW:=Lib.hid (fun W (h:Un W va a) (h':Un W (.slice Ab L cb) b)=>GI W va _ a b q r h h' hla (by omega) (by omega) hq hr)
     clear hq hr hk hge hb hL hla hlb h0
     go_enter Tryz.func164,Tryz.ntmps164
     go_wp2_with (fail)
     refine JE.out.mono ?_
     rintro e w1 ⟨rfl,hB⟩
     replace ha:=U.below (U.fM ha) hB
     replace hb2:=U.below (U.fM hb2) hB
     replace uL:=uL.below hB
     clear hB JE
     go_wp2_with (fail)
     refine (hW.out _ ha hb2).mono ?_
     rintro e w2 ⟨⟨x,y,rfl,hx,hy⟩,hB⟩
     replace uL:=uL.below hB
     have HF:Hid (∃ x' y',Ending.returned (.tuple #[x,y,.int .i64 0]) = .returned (.tuple #[x',y',.int .i64 0])∧Un w2 x' q∧Un w2 y' r):=⟨_,_,rfl,hx,hy⟩
     clear hx hy hB hW ha hb2
     go_wp2
     go_ret3
     exact ⟨HF.out,uL⟩
set_option maxRecDepth 100000 in
set_option maxHeartbeats 8000000 in
theorem O3 (w:World) (va vb:Value) (a b q r:Nat) (ha:Un w va a) (hb:Un w vb b) (hla:(limbs a).length≤1000) (hlb:(limbs b).length≤1000) (h0:b≠0) (hq:a/b=q) (hr:a%b=r) :
  Calls Tryz.prog 142 #[va,vb] w fun e w'=>Dv w w' e q r:=by
 have hS:=Lib.hid (O1 w va vb a b q r ha hb hla hlb h0 hq hr)
 unfold Dv at *
 obtain ⟨Aa,ca,rfl,hca⟩:=U.shape (U.fM ha)
 obtain ⟨Ab,cb,rfl,hcb⟩:=U.shape (U.fM hb)
 clear ha hb hq hr h0
 generalize (limbs a).length=la at *
 generalize (limbs b).length=lb_ at *
 obtain ⟨d,hd⟩:∃ d:Int,(la:Int)-(lb_:Int)=d:=⟨_,rfl⟩
 obtain ⟨mn,hmn⟩:∃ mn:Int,(if d<(lb_:Int) then d else (lb_:Int))=mn:=⟨_,rfl⟩
 have hm1:decide ((1600:Int)≤mn)=false:=by rw [decide_eq_false_iff_not];split at hmn<;>omega
 have hm2:¬ (1600:Int)≤mn:=by split at hmn<;>omega
 have HA:=Lib.hid hca
 clear hca hcb
 go_enter Tryz.func142,Tryz.ntmps142
 go_wp2_with (fail)
 refine hS.out.mono ?_
 rintro e w1 ⟨⟨x,y,rfl,hx,hy⟩,hB⟩
 have HF:Hid (∃ x' y',Ending.returned (.tuple #[x,y,.int .i64 0]) = .returned (.tuple #[x',y',.int .i64 0])∧Un w1 x' q∧Un w1 y' r):=⟨_,_,rfl,hx,hy⟩
 clear hx hy hS
 go_wp2
 go_ret3
 exact ⟨HF.out,hB⟩
theorem mulN (w:World) (va vb:Value) (n m k:Nat) (ha:Un w va n) (hb:Un w vb m) (hn:(limbs n).length≤398) (hm:(limbs m).length≤398) (hk:n*m=k) :
  Calls Tryz.prog 115 #[va,vb] w fun e w'=>∃ u,e = .returned u∧Un w' u k∧Ext w w':=by
 refine (JG w va vb _ _ ha hb (by omega) (by omega) (by omega)).mono ?_
 rw [aH,aH,hk]
 rintro e w' ⟨⟨u,h1,h2⟩,h3⟩
 exact ⟨u,h1,h2,h3⟩
end Go.Proofs.YtdpmbgomcjnohaaGreatDoor
/- Reciprocals. -/
namespace Go.Proofs.YtdpmbgomcjnohaaGreatDoor
open Go.RowKit
set_option linter.unusedVariables false
set_option maxHeartbeats 400000
theorem tV (w:World):Un (w.alloc (.cells #[.int .u32 1] 67)) (.slice (some ⟨w.heap.size,0,none⟩) 1 1) 1:=TG w _ rfl 1 (by decide) (by decide)
theorem GJ:(limbs 1).length≤1000000000:=Nat.le_trans (abU (by decide)) (by decide)
end Go.Proofs.YtdpmbgomcjnohaaGreatDoor
/- Reciprocals by a step; Newton's division; reciprocals told. -/
namespace Go.Proofs.YtdpmbgomcjnohaaGreatDoor
open Go.RowKit
set_option linter.unusedVariables false
set_option maxHeartbeats 400000
theorem mul_two {a b m n:Nat} (ha:a≤2^m) (hb:b≤2^n):a*b≤2^(m+n):=by
 rw [Nat.pow_add];exact Nat.mul_le_mul ha hb
end Go.Proofs.YtdpmbgomcjnohaaGreatDoor
/- The arguments of the laws of products. -/
namespace Go.Proofs.YtdpmbgomcjnohaaGreatDoor
open Go.ChangeShapes Go.WideShapes Go.ChangeAt Go.RowKit
set_option linter.unusedVariables false
set_option maxRecDepth 100000
set_option maxHeartbeats 400000
def Bx2 (w:World) (B:Nat) (va vb:Value):Prop:=B<w.heap.size∧w.cell? ⟨B,0,none⟩=some va∧w.cell? ⟨B,1,none⟩=some vb
theorem Bx2.ext {w w':World} {B:Nat} {va vb:Value} (h:Bx2 w B va vb) (hB:Ext w w'):Bx2 w' B va vb:=by
 obtain ⟨h0,h1,h2⟩:=h
 have hc:=fun o=>hB.cell (p:=⟨B,o,none⟩) h0
 exact ⟨Nat.lt_of_lt_of_le h0 hB.size,by rw [hc];exact h1,by rw [hc];exact h2⟩
def Bx3 (w:World) (B:Nat) (va vb vc:Value):Prop:=B<w.heap.size∧w.cell? ⟨B,0,none⟩=some va∧w.cell? ⟨B,1,none⟩=some vb∧w.cell? ⟨B,2,none⟩=some vc
theorem Bx3.ext {w w':World} {B:Nat} {va vb vc:Value} (h:Bx3 w B va vb vc) (hB:Ext w w'):Bx3 w' B va vb vc:=by
 obtain ⟨h0,h1,h2,h3⟩:=h
 have hc:=fun o=>hB.cell (p:=⟨B,o,none⟩) h0
 exact ⟨Nat.lt_of_lt_of_le h0 hB.size,by rw [hc];exact h1,by rw [hc];exact h2,by rw [hc];exact h3⟩
def Ltl (n k:Nat):Prop:=n<LB^k
theorem Ltl.le {n m i:Nat} (hn:Ltl n i) (h:m≤n):Ltl m i:=Nat.lt_of_le_of_lt h hn
end Go.Proofs.YtdpmbgomcjnohaaGreatDoor
/- The document's own Add. -/
namespace Go.Proofs.YtdpmbgomcjnohaaGreatDoor
open Go.RowKit
set_option linter.unusedVariables false
set_option maxHeartbeats 400000
attribute [local go_sem ↓] fD
attribute [local go_sem] bL
def pv (xs:List Nat) (k:Nat):Nat:=val ((List.range k).map fun j=>lb xs j)
theorem Vt (xs:List Nat):pv xs 0=0:=rfl
theorem xU (xs:List Nat) (k:Nat):pv xs (k+1)=pv xs k+lb xs k*4294967296^k:=by
 unfold pv
 rw [List.range_succ,List.map_append,val_append]
 simp only [List.map_cons,List.map_nil,val,Nat.mul_zero,Nat.add_zero,List.length_map,List.length_range]
 rw [Nat.mul_comm]
theorem Dk (xs:List Nat) (L:Nat) (h:xs.length≤L):pv xs L=val xs:=oG xs L h
theorem SL (xs:List Nat) (k:Nat) (h:∀ x∈xs,x<4294967296):pv xs k<4294967296^k:=by
 have:=sK ((List.range k).map fun j=>lb xs j) (by intro x hx;obtain ⟨j,_,rfl⟩:=List.mem_map.1 hx;exact cK h j)
 simpa [pv] using this
theorem sZ (o:List Nat) (x:Nat):val (o++[x])=val o+x*4294967296^o.length:=by
 rw [val_append];simp only [val,Nat.mul_zero,Nat.add_zero];rw [Nat.mul_comm]
structure uX (xs ys:List Nat) (k:Nat) (o:List Nat) (c:Nat):Prop where
 len:o.length=k
 lt:∀ x∈o,x<4294967296
 carry:c≤1
 val_eq:val o+c*4294967296^k=pv xs k+pv ys k
theorem uX.start (xs ys:List Nat):uX xs ys 0 [] 0:=⟨rfl,by simp,by omega,rfl⟩
theorem uX.step {xs ys:List Nat} {k:Nat} {o:List Nat} {c:Nat} (h:uX xs ys k o c) (hx:∀ x∈xs,x<4294967296) (hy:∀ x∈ys,x<4294967296) :
  uX xs ys (k+1) (o++[(lb xs k+lb ys k+c)%4294967296]) ((lb xs k+lb ys k+c)/4294967296):=by
 have h1:=cK hx k
 have h2:=cK hy k
 have h3:=h.carry
 refine ⟨by simp [h.len],l5 h.lt (Nat.mod_lt _ (by decide)),by omega,?_⟩
 rw [sZ,xU,xU,h.len,Nat.pow_succ]
 have e:=h.val_eq
 generalize 4294967296^k=B at *
 generalize lb xs k=p at *
 generalize lb ys k=q at *
 have e4:(p+q+c)*B=(p+q+c)%4294967296*B+(p+q+c)/4294967296*4294967296*B:=by
  conv=>lhs;rw [show p+q+c=(p+q+c)%4294967296+(p+q+c)/4294967296*4294967296 by omega]
  rw [Nat.add_mul]
 rw [Nat.add_mul,Nat.add_mul] at e4
 have e5:(p+q+c)/4294967296*(B*4294967296)=(p+q+c)/4294967296*4294967296*B:=by
  rw [Nat.mul_comm B 4294967296,← Nat.mul_assoc]
 rw [e5]
 omega
theorem uX.done {xs ys:List Nat} {k:Nat} {o:List Nat} {c:Nat} (h:uX xs ys (k+1) o c) (hx:∀ x∈xs,x<4294967296) (hy:∀ x∈ys,x<4294967296) (h1:xs.length≤k) (h2:ys.length≤k) :
  val o=val xs+val ys:=by
 have e:=h.val_eq
 have a1:=SL xs k hx
 have a2:=SL ys k hy
 rw [Dk xs _ (by omega)] at e a1
 rw [Dk ys _ (by omega)] at e a2
 have h3:=h.carry
 rw [Nat.pow_succ] at e
 have hB:0<4294967296^k:=Nat.pow_pos (by decide)
 generalize 4294967296^k=B at *
 have:c=0∨c=1:=by omega
 rcases this with rfl | rfl<;>omega
theorem fI {w0 w:World} (hB:Below w0.heap.size w0 w) {v:Value} {o:List Nat} (hown:Own w w0.heap.size v o) (z:Int) (x:Nat) (hz:z=(x:Int)) (hx:x<4294967296) (hlen:o.length+1≤35184372088832) :
  ∃ v' w',(Builtin.append_ #[22,22] 22 #[v,.slice (some ⟨w.heap.size,0,none⟩) 1 1]).run Tryz.prog (w.alloc (.cells #[.int .u32 z] 67)) = .ok v' w'∧Own w' w0.heap.size v' (o++[x])∧Below w0.heap.size w0 w':=by
 subst hz
 have hu:U (w.alloc (.cells #[.int .u32 (x:Int)] 67)) (.slice (some ⟨w.heap.size,0,none⟩) 1 1) [x]:=LP w [x] (by simpa using hx) (by simp)
 have hB1:=hB.alloc hB.size (.cells #[.int .u32 (x:Int)] 67)
 obtain ⟨v',w',hrun,ho,hg⟩:=ng _ w0.heap.size _ o (World.ownsRow.alloc hown _) _ _ hu (by simpa using hlen) hB1.size
 exact ⟨v',w',hrun,ho,hB1.grown hg hB1.size (fun j e=>(World.ownsRow.lt hown j e).1)⟩
set_option maxRecDepth 100000 in
theorem Lt (w:World) (v u:Value) (xs ys:List Nat) (h:U w v xs) (g:U w u ys) (hl:xs.length≤100000000) (hl2:ys.length≤100000000) :
  Calls Tryz.prog 95 #[v,u] w fun e w'=>(∃ z,e = .returned z∧U w' z (limbs (val xs+val ys)))∧Below w.heap.size w w':=by
 obtain ⟨A,c,rfl,⟨hc,hm⟩,hx,hr⟩:=id h
 obtain ⟨A2,c2,rfl,⟨hc2,hm2⟩,hx2,hr2⟩:=id g
 clear hr hr2
 go_enter Tryz.func95,Tryz.ntmps95
 go_wp2_with (fail)
 have hown0:Own (w.alloc (.cells #[] 67)) w.heap.size (.slice (some ⟨w.heap.size,0,none⟩) 0 0) []:=World.ownsRow_lit w #[] 0 (Nat.le_refl _) (Nat.zero_le _) rfl
 have hB0:Below w.heap.size w (w.alloc (.cells #[] 67)):=(Below.refl _ _).alloc (Nat.le_refl _) _
 go_loopw [5,6,7] (fun s cv i wr=>∃ (k cy:Nat) (o:List Nat),k≤max xs.length ys.length+1∧i = .int .i64 k∧cv = .int .u64 cy∧Hid (uX xs ys k o cy)∧Own wr w.heap.size s o∧Below w.heap.size w wr) (fun _ _ i _=>max xs.length ys.length+2-(intOf i).toNat)
 case atStart=>exact ⟨0,0,[],Nat.zero_le _,rfl,rfl,uX.start xs ys,hown0,hB0⟩
 case round =>
  clear hown0 hB0
  obtain ⟨k,cy,o,hk,rfl,rfl,HO,hown,hB⟩:=hrel
  by_cases hd1:k≤xs.length
  · have h1:=cK hx k
    have h2:=cK hx2 k
    have h3:=HO.out.carry
    have hlen:=HO.out.len
    obtain ⟨x1,hx1⟩:∃ x1,(lb xs k+lb ys k+cy)%4294967296=x1:=⟨_,rfl⟩
    obtain ⟨c1,hc1⟩:∃ c1,(lb xs k+lb ys k+cy)/4294967296=c1:=⟨_,rfl⟩
    have AQ:Hid (uX xs ys (k+1) (o++[x1]) c1):=by rw [Hid,← hx1,← hc1];exact HO.out.step hx hx2
    obtain ⟨v',w',hrun,hown',hB'⟩:=fI hB hown ((((lb xs k:Nat):Int)+((lb ys k:Nat):Int)+(cy:Int))%4294967296) x1 (by rw [← hx1];omega) (by rw [← hx1];exact Nat.mod_lt _ (by decide)) (by omega)
    obtain ⟨t1,t2,t3⟩:=eD hrun
    have hk2:k+1≤max xs.length ys.length+1:=by omega
    have EM:Hid ((((lb xs k:Nat):Int)+((lb ys k:Nat):Int)+(cy:Int))/4294967296=(c1:Int)):=by rw [Hid,← hc1];omega
    clear hrun hx1 hc1 hlen
    go_wp2_with (fail)
    refine (bJ _ _ xs _ k rfl (h.below hB)).mono ?_
    rintro e w' ⟨rfl,rfl⟩
    go_wp2_with (fail)
    refine (bJ _ _ ys _ k rfl (g.below hB)).mono ?_
    rintro e w' ⟨rfl,rfl⟩
    go_wp2_with (fail)
    go_roundw
    case rel=>exact ⟨k+1,c1,_,hk2,by go_num,by rw [EM.out],AQ,hown',hB'⟩
    case measure=>simp [intOf];omega
  · by_cases hd2:k≤ys.length
    · have h1:=cK hx k
      have h2:=cK hx2 k
      have h3:=HO.out.carry
      have hlen:=HO.out.len
      obtain ⟨x1,hx1⟩:∃ x1,(lb xs k+lb ys k+cy)%4294967296=x1:=⟨_,rfl⟩
      obtain ⟨c1,hc1⟩:∃ c1,(lb xs k+lb ys k+cy)/4294967296=c1:=⟨_,rfl⟩
      have AQ:Hid (uX xs ys (k+1) (o++[x1]) c1):=by rw [Hid,← hx1,← hc1];exact HO.out.step hx hx2
      obtain ⟨v',w',hrun,hown',hB'⟩:=fI hB hown ((((lb xs k:Nat):Int)+((lb ys k:Nat):Int)+(cy:Int))%4294967296) x1 (by rw [← hx1];omega) (by rw [← hx1];exact Nat.mod_lt _ (by decide)) (by omega)
      obtain ⟨t1,t2,t3⟩:=eD hrun
      have hk2:k+1≤max xs.length ys.length+1:=by omega
      have EM:Hid ((((lb xs k:Nat):Int)+((lb ys k:Nat):Int)+(cy:Int))/4294967296=(c1:Int)):=by rw [Hid,← hc1];omega
      clear hrun hx1 hc1 hlen
      go_wp2_with (fail)
      refine (bJ _ _ xs _ k rfl (h.below hB)).mono ?_
      rintro e w' ⟨rfl,rfl⟩
      go_wp2_with (fail)
      refine (bJ _ _ ys _ k rfl (g.below hB)).mono ?_
      rintro e w' ⟨rfl,rfl⟩
      go_wp2_with (fail)
      go_roundw
      case rel=>exact ⟨k+1,c1,_,hk2,by go_num,by rw [EM.out],AQ,hown',hB'⟩
      case measure=>simp [intOf];omega
    · have hlen:=HO.out.len
      obtain ⟨j,rfl⟩:∃ j,k=j+1:=⟨k-1,by omega⟩
      have HV:Hid (val o=val xs+val ys):=HO.out.done hx hx2 (by omega) (by omega)
      have hu:=hown.xX HO.out.lt (by omega)
      have hol:o.length≤1000000000:=by omega
      clear hlen
      go_wp2_with (fail)
      refine (dB _ _ _ hu hol).mono ?_
      rintro e w' ⟨⟨z,rfl,hz⟩,hB2⟩
      rw [HV.out] at hz
      replace hB:=Below.trans hB (Below.mono hB2 hB.size)
      go_wp2
      go_ret
      exact ⟨⟨_,rfl,hz⟩,hB⟩
end Go.Proofs.YtdpmbgomcjnohaaGreatDoor
/- The document's own Sub. -/
namespace Go.Proofs.YtdpmbgomcjnohaaGreatDoor
open Go.RowKit
set_option linter.unusedVariables false
set_option maxHeartbeats 400000
attribute [local go_sem ↓] fD
attribute [local go_sem] bL
structure xY (xs ys:List Nat) (k:Nat) (o:List Nat) (c:Nat):Prop where
 len:o.length=k
 lt:∀ x∈o,x<4294967296
 carry:c≤1
 val_eq:val o+pv ys k=pv xs k+c*4294967296^k
theorem xY.start (xs ys:List Nat):xY xs ys 0 [] 0:=⟨rfl,by simp,by omega,rfl⟩
theorem xY.step {xs ys:List Nat} {k:Nat} {o:List Nat} {c:Nat} (h:xY xs ys k o c) (hx:∀ x∈xs,x<4294967296) (hy:∀ x∈ys,x<4294967296) :
  xY xs ys (k+1) (o++[(4294967296+lb xs k-lb ys k-c)%4294967296]) (1-(4294967296+lb xs k-lb ys k-c)/4294967296):=by
 have h1:=cK hx k
 have h2:=cK hy k
 have h3:=h.carry
 refine ⟨by simp [h.len],l5 h.lt (Nat.mod_lt _ (by decide)),by omega,?_⟩
 rw [sZ,xU,xU,h.len,Nat.pow_succ]
 have e:=h.val_eq
 generalize 4294967296^k=B at *
 generalize lb xs k=p at *
 generalize lb ys k=q at *
 obtain ⟨d,hd⟩:∃ d,(4294967296+p-q-c)%4294967296=d:=⟨_,rfl⟩
 obtain ⟨f,hf⟩:∃ f,1-(4294967296+p-q-c)/4294967296=f:=⟨_,rfl⟩
 have e3:d+q+c=p+f*4294967296:=by omega
 rw [hd,hf]
 have e4:(d+q+c)*B=(p+f*4294967296)*B:=by rw [e3]
 rw [Nat.add_mul,Nat.add_mul,Nat.add_mul] at e4
 have e5:f*(B*4294967296)=f*4294967296*B:=by
  rw [Nat.mul_comm B 4294967296,← Nat.mul_assoc]
 rw [e5]
 omega
theorem xY.done {xs ys:List Nat} {o:List Nat} {c:Nat} (h:xY xs ys xs.length o c) (hl:ys.length≤xs.length) (hge:val ys≤val xs):val o=val xs-val ys:=by
 have e:=h.val_eq
 rw [Dk xs _ (Nat.le_refl _),Dk ys _ hl] at e
 have hlt:=sK o h.lt
 rw [h.len] at hlt
 have hc:=h.carry
 generalize 4294967296^xs.length=B at *
 have:c=0∨c=1:=by omega
 rcases this with rfl | rfl<;>omega
set_option maxRecDepth 100000 in
theorem Lu (w:World) (v u:Value) (n m:Nat) (h:Un w v n) (g:Un w u m) (hl:(limbs n).length≤100000000) (hl2:(limbs m).length≤100000000) (b:Bool) (hb:decide (m≤n)=b) (d:Nat) (hd:n-m=d) :
  Calls Tryz.prog 96 #[v,u] w fun e w'=>(∃ z,e = .returned (.tuple #[z,.bool b])∧Un w' z d)∧Below w.heap.size w w':=by
 obtain ⟨A,c,rfl,⟨hc,hm⟩,hx,hr⟩:=id h
 obtain ⟨A2,c2,rfl,⟨hc2,hm2⟩,hx2,hr2⟩:=id g
 clear hr hr2
 rcases Nat.lt_or_ge n m with hlt | hge
 · have HF:Hid (bZ (val (limbs n):Nat) (val (limbs m):Nat) = -1):=by rw [Hid,aH,aH];exact kV (Int.ofNat_lt.2 hlt)
   obtain rfl:d=0:=by omega
   obtain rfl:b=false:=by rw [← hb,decide_eq_false_iff_not];omega
   clear hb hd hlt
   go_enter Tryz.func96,Tryz.ntmps96
   go_wp2_with (fail)
   refine (nR _ _ _ _ _ h g (by omega) (by omega)).mono ?_
   rintro e w' ⟨rfl,rfl⟩
   rw [HF.out]
   go_wp2
   go_ret2
   exact ⟨⟨_,rfl,JF _⟩,Below.refl _ _⟩
 · have HF:Hid (0≤bZ (val (limbs n):Nat) (val (limbs m):Nat)):=by
    rw [Hid,aH,aH]
    rcases Nat.lt_or_ge m n with h1 | h1
    · rw [lZ (Int.ofNat_lt.2 h1)];decide
    · obtain rfl:n=m:=by omega
      rw [qC];decide
   obtain rfl:b=true:=by rw [← hb,decide_eq_true_iff];omega
   have HD:=Lib.hid hd
   have HG:=Lib.hid hge
   have hll:=fC hge
   clear hb hd hge
   obtain ⟨K,hK⟩:∃ K,bZ (val (limbs n):Nat) (val (limbs m):Nat)=K:=⟨_,rfl⟩
   have hK0:0≤K:=by rw [← hK];exact HF.out
   clear HF
   go_enter Tryz.func96,Tryz.ntmps96
   go_wp2_with (fail)
   refine (nR _ _ _ _ _ h g (by omega) (by omega)).mono ?_
   rintro e w' ⟨rfl,rfl⟩
   rw [hK]
   clear hK
   go_wp2_with (fail)
   have hown0:Own (w.alloc (.cells #[] 67)) w.heap.size (.slice (some ⟨w.heap.size,0,none⟩) 0 0) []:=World.ownsRow_lit w #[] 0 (Nat.le_refl _) (Nat.zero_le _) rfl
   have hB0:Below w.heap.size w (w.alloc (.cells #[] 67)):=(Below.refl _ _).alloc (Nat.le_refl _) _
   go_loopw [6,7,8] (fun s cv i wr=>∃ (k cy:Nat) (o:List Nat),k≤(limbs n).length∧i = .int .i64 k∧cv = .int .u64 cy∧Hid (xY (limbs n) (limbs m) k o cy)∧Own wr w.heap.size s o∧Below w.heap.size w wr) (fun _ _ i _=>(limbs n).length-(intOf i).toNat)
   case atStart=>exact ⟨0,0,[],Nat.zero_le _,rfl,rfl,xY.start _ _,hown0,hB0⟩
   case round =>
    clear hown0 hB0
    obtain ⟨k,cy,o,hk,rfl,rfl,HO,hown,hB⟩:=hrel
    by_cases hd1:k<(limbs n).length
    · have h1:=cK hx k
      have h2:=cK hx2 k
      have h3:=HO.out.carry
      have hlen:=HO.out.len
      obtain ⟨x1,hx1⟩:∃ x1,(4294967296+lb (limbs n) k-lb (limbs m) k-cy)%4294967296=x1:=⟨_,rfl⟩
      obtain ⟨c1,hc1⟩:∃ c1,1-(4294967296+lb (limbs n) k-lb (limbs m) k-cy)/4294967296=c1:=⟨_,rfl⟩
      have AQ:Hid (xY (limbs n) (limbs m) (k+1) (o++[x1]) c1):=by rw [Hid,← hx1,← hc1];exact HO.out.step hx hx2
      obtain ⟨v',w',hrun,hown',hB'⟩:=fI hB hown ((4294967296+((lb (limbs n) k:Nat):Int)-((lb (limbs m) k:Nat):Int)-(cy:Int))%4294967296) x1 (by rw [← hx1];omega) (by rw [← hx1];exact Nat.mod_lt _ (by decide)) (by omega)
      obtain ⟨t1,t2,t3⟩:=eD hrun
      have EM:Hid (1-(4294967296+((lb (limbs n) k:Nat):Int)-((lb (limbs m) k:Nat):Int)-(cy:Int))/4294967296=(c1:Int)):=by rw [Hid,← hc1];omega
      clear hrun hx1 hc1 hlen
      go_wp2_with (fail)
      refine (bJ _ _ (limbs n) _ k rfl (U.below h hB)).mono ?_
      rintro e w' ⟨rfl,rfl⟩
      go_wp2_with (fail)
      refine (bJ _ _ (limbs m) _ k rfl (U.below g hB)).mono ?_
      rintro e w' ⟨rfl,rfl⟩
      go_wp2_with (fail)
      go_roundw
      case rel=>exact ⟨k+1,c1,_,by omega,by go_num,by rw [EM.out],AQ,hown',hB'⟩
      case measure=>simp [intOf];omega
    · have hlen:=HO.out.len
      obtain rfl:k=(limbs n).length:=by omega
      have HV:Hid (val o=d):=by rw [Hid,HO.out.done hll (by rw [aH,aH];exact HG.out),aH,aH];exact HD.out
      have hu:=hown.xX HO.out.lt (by omega)
      have hol:o.length≤1000000000:=by omega
      clear hlen
      go_wp2_with (fail)
      refine (dB _ _ _ hu hol).mono ?_
      rintro e w' ⟨⟨z,rfl,hz⟩,hB2⟩
      have hz2:Un w' z d:=by rw [← HV.out];exact hz
      replace hB:=Below.trans hB (Below.mono hB2 hB.size)
      clear hz
      go_wp2
      go_ret2
      exact ⟨⟨_,rfl,hz2⟩,hB⟩
end Go.Proofs.YtdpmbgomcjnohaaGreatDoor
/- The document's own Shl. -/
namespace Go.Proofs.YtdpmbgomcjnohaaGreatDoor
open Go.RowKit
set_option linter.unusedVariables false
set_option maxHeartbeats 400000
attribute [local go_sem ↓] fD
attribute [local go_sem] bL
structure nT (xs:List Nat) (q P k:Nat) (o:List Nat) (c:Nat):Prop where
 len:o.length=q+k
 lt:∀ x∈o,x<4294967296
 carry:c<P
 val_eq:val o+c*4294967296^(q+k)=pv xs k*P*4294967296^q
theorem nT.start (xs:List Nat) (q P:Nat) (hP:0<P):nT xs q P 0 (List.replicate q 0) 0 :=
 ⟨by simp,by intro x hx;have:=List.eq_of_mem_replicate hx;omega,hP,by rw [dG,Vt];simp⟩
theorem nT.step {xs:List Nat} {q P k:Nat} {o:List Nat} {c:Nat} (h:nT xs q P k o c) (hx:∀ x∈xs,x<4294967296) :
  nT xs q P (k+1) (o++[(lb xs k*P+c)%4294967296]) ((lb xs k*P+c)/4294967296):=by
 have h1:=cK hx k
 have h3:=h.carry
 have h4:lb xs k*P+c<4294967296*P:=by
  have:=Nat.mul_le_mul_right P (show lb xs k+1≤4294967296 by omega)
  rw [Nat.add_mul] at this;omega
 refine ⟨by simp [h.len];omega,l5 h.lt (Nat.mod_lt _ (by decide)),by rw [Nat.div_lt_iff_lt_mul (by decide),Nat.mul_comm P];exact h4,?_⟩
 rw [sZ,xU,h.len,← Nat.add_assoc,Nat.pow_succ,Nat.pow_add 4294967296 q k]
 have e:=h.val_eq
 rw [Nat.pow_add] at e
 generalize 4294967296^k=B at *
 generalize 4294967296^q=C at *
 obtain ⟨X,hX⟩:∃ X,lb xs k*P+c=X:=⟨_,rfl⟩
 have e3:X=X%4294967296+X/4294967296*4294967296:=by omega
 have e4:X*(C*B)=X%4294967296*(C*B)+X/4294967296*(C*B*4294967296):=by
  conv=>lhs;rw [e3]
  rw [Nat.add_mul,Nat.mul_assoc (X/4294967296),Nat.mul_comm 4294967296]
 have e5:X*(C*B)=lb xs k*P*(C*B)+c*(C*B):=by rw [← hX,Nat.add_mul]
 have e6:lb xs k*P*(C*B)=lb xs k*B*P*C:=by
  rw [Nat.mul_comm C B,← Nat.mul_assoc,Nat.mul_right_comm (lb xs k) P B]
 rw [hX,Nat.add_mul,Nat.add_mul]
 omega
theorem nT.done {xs:List Nat} {q P k:Nat} {o:List Nat} {c:Nat} (h:nT xs q P (k+1) o c) (hx:∀ x∈xs,x<4294967296) (h1:xs.length≤k) (hP:P<4294967296) :
  val o=val xs*P*4294967296^q:=by
 have e:=h.val_eq
 have a1:=SL xs k hx
 rw [Dk xs _ (by omega)] at e a1
 have hc:c=0:=by
  rcases Nat.eq_zero_or_pos c with h0 | h0
  · exact h0
  · exfalso
    have b1:4294967296^(q+(k+1))≤c*4294967296^(q+(k+1)):=Nat.le_mul_of_pos_left _ h0
    have b2:val xs*P<4294967296^(k+1):=by
     rw [Nat.pow_succ]
     exact Nat.mul_lt_mul'' a1 hP
    have b3:val xs*P*4294967296^q<4294967296^(k+1)*4294967296^q:=Nat.mul_lt_mul_of_pos_right b2 (Nat.pow_pos (by decide))
    rw [← Nat.pow_add,Nat.add_comm (k+1) q] at b3
    omega
 subst hc
 omega
end Go.Proofs.YtdpmbgomcjnohaaGreatDoor
/- The contracts of the document's own functions, in one form. -/
namespace Go.Proofs.YtdpmbgomcjnohaaGreatDoor
open Go.RowKit
set_option linter.unusedVariables false
theorem zV (w:World) (v:Value) (xs:List Nat) (h:U w v xs) (hl:xs.length≤1000000000) (n:Nat) (hn:val xs=n) :
  Calls Tryz.prog 100 #[v] w fun e w'=>∃ u,e = .returned u∧Un w' u n∧Ext w w' :=
 (dB w v xs h hl).mono fun e w' ⟨⟨u,he,hu⟩,hw⟩=>⟨u,he,by rw [Un,← hn];exact hu,hw⟩
theorem LU (w:World) (v:Value) (n:Nat) (h:Un w v n) (hl:(limbs n).length≤1000000000) (k:Int) (hk:((fK n:Nat):Int)=k) :
  Calls Tryz.prog 114 #[v] w fun e w'=>e = .returned (.int .i64 k)∧Ext w w' :=
 (Ju w v n h hl).mono fun e w' ⟨he,m,hw⟩=>⟨by rw [he,hk],by rw [hw];exact jq w m⟩
theorem EL (w:World) (v:Value) (n:Nat) (i:Int) (h:Un w v n) (hi0 : -9000000000000≤i) (hi1:i≤9000000000000) (k:Int) (hk:((pG n i:Nat):Int)=k) :
  Calls Tryz.prog 56 #[v,.int .i64 i] w fun e w'=>e = .returned (.int .u32 k)∧Ext w w' :=
 (Ls w v n i hi0 hi1 h).mono fun e w' ⟨he,hw⟩=>⟨by rw [he,hk],by rw [← hw];exact Ext.refl w⟩
theorem Kv (w:World) (v u:Value) (n m:Nat) (h:Un w v n) (g:Un w u m) (hl:(limbs n).length≤1000000000) (hl2:(limbs m).length≤1000000000) (k:Int) (hk:bZ n m=k) :
  Calls Tryz.prog 79 #[v,u] w fun e w'=>e = .returned (.int .i64 k)∧Ext w w' :=
 (nR w v u _ _ h g hl hl2).mono fun e w' ⟨he,hw⟩=>⟨by rw [he,aH,aH,hk],by rw [← hw];exact Ext.refl w⟩
theorem EO (w:World) (v u:Value) (n m:Nat) (h:Un w v n) (g:Un w u m) (hm:(limbs n).length≤100000000) (hm2:(limbs m).length≤100000000) (s:Nat) (hs:n+m=s) :
  Calls Tryz.prog 95 #[v,u] w fun e w'=>∃ z,e = .returned z∧Un w' z s∧Ext w w':=by
 subst hs
 have:=Lt w v u _ _ h g hm hm2
 rw [aH,aH] at this
 exact this.mono fun e w' ⟨⟨z,he,hz⟩,hb⟩=>⟨z,he,hz,hb⟩
theorem pF (w:World) (v u:Value) (n m:Nat) (h:Un w v n) (g:Un w u m) (hm:(limbs n).length≤100000000) (hm2:(limbs m).length≤100000000) (b:Bool) (hb:decide (m≤n)=b) (d:Nat) (hd:n-m=d) :
  Calls Tryz.prog 96 #[v,u] w fun e w'=>∃ z,e = .returned (.tuple #[z,.bool b])∧Un w' z d∧Ext w w' :=
 (Lu w v u n m h g hm hm2 b hb d hd).mono fun e w' ⟨⟨z,he,hz⟩,hb⟩=>⟨z,he,hz,hb⟩
end Go.Proofs.YtdpmbgomcjnohaaGreatDoor
