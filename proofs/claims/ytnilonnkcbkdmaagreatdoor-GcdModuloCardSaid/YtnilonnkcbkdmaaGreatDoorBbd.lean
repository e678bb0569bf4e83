/- Two naturals are the same; a product's rest. -/
import Derived.Test.YtnilonnkcbkdmaaGreatDoorBbc
import Derived.Test.YtnilonnkcbkdmaaGreatDoorBay

namespace Go.Proofs.YtnilonnkcbkdmaaGreatDoor
open Go.RowKit
set_option linter.all false
set_option maxRecDepth 100000
set_option maxHeartbeats 8000000
theorem Yr {n m:Nat} (hl:(limbs n).length=(limbs m).length) (h:∀ j,j<(limbs n).length→lb (limbs n) j=lb (limbs m) j):n=m:=by
 have e:limbs n=limbs m:=by
  refine List.ext_getElem hl fun j h1 h2=>?_
  have:=h j h1
  simpa [lb,h1,h2] using this
 rw [← aG n,← aG m,e]
section
variable {x y:Operand}
theorem al4 {a b:Nat} {v:Bool} (h:(a != b)=v) (X:World):(do eqGuard .neq 43 x y (.int .u32 (a:Int)) (.int .u32 (b:Int));binOp .neq 43 (.int .u32 (a:Int)) (.int .u32 (b:Int)):Sem Value).run Tryz.prog X = .ok (.bool v) X:=by
 have e:(((a:Nat):Int) != ((b:Nat):Int))=v:=by rw [← h,Bool.eq_iff_iff];simp;omega
 clear h
 subst e
 go_simp
end
theorem xU (w:World) (va vb:Value) (n m:Nat) (ha:Un w va n) (hb:Un w vb m) (hln:(limbs n).length≤900000) :
  Calls Tryz.prog 59 #[va,vb] w fun e w'=>e = .returned (.bool (decide (n=m)))∧Ext w w':=by
 obtain ⟨Aa,ca,rfl,-⟩:=Un.sh ha
 obtain ⟨Ab,cb,rfl,-⟩:=Un.sh hb
 refine Pl.aV (n:=26) (vs:=[.slice Aa (limbs n).length ca,.slice Ab (limbs m).length cb]) Tryz.func59 rfl (by kernel_rfl) (by simp) ?_
 repeat refine Pl.az ?_
 refine Pl.ay (by kernel_rfl) ?_
 refine Pl.aj trivial rfl rfl rfl rfl rfl ?_
 refine Pl.ak ?_
 by_cases hl:(limbs n).length=(limbs m).length
 · repeat refine Pl.az ?_
   refine Pl.ay (by kernel_rfl) ?_
   refine Pl.ah trivial rfl rfl rfl rfl rfl ?_
   refine bG trivial rfl rfl rfl rfl rfl ?_
   refine Pl.ah trivial rfl rfl rfl rfl rfl ?_
   refine bG trivial rfl rfl rfl rfl rfl ?_
   refine Pl.aI (v:=.bool false) trivial rfl rfl rfl rfl rfl rfl (fun X=>abN (by rw [hl];simp) X) ?_
   refine Pl.ak ?_
   repeat refine Pl.az ?_
   refine Pl.bD rfl ?_
   repeat refine Pl.az ?_
   refine Pl.bN ?_
   repeat refine Pl.az ?_
   refine Pl.ay (by kernel_rfl) ?_
   refine Pl.ah trivial rfl rfl rfl rfl rfl ?_
   refine bG trivial rfl rfl rfl rfl rfl ?_
   refine Pl.ah trivial rfl rfl rfl rfl rfl ?_
   refine Pl.ak ?_
   repeat refine Pl.az ?_
   refine Pl.kS [(0,.slice Aa (limbs n).length ca),(1,.slice Ab (limbs m).length cb),(12,.int .i64 ((limbs n).length:Int)),(13,.int .i64 (((0:Nat):Int):Int))] (Pl.aa rfl (Pl.aa rfl (Pl.aa rfl (Pl.aa rfl Pl.aK)))) ?_
   repeat refine Pl.az ?_
   refine Pl.cK ?_
   repeat refine Pl.az ?_
   refine Pl.mU (fun k l' w'=>∃ i:Nat,k=(limbs n).length-i∧i≤(limbs n).length∧(∀ j,j<i→lb (limbs n) j=lb (limbs m) j)∧Ext w w'∧l'=[(0,.slice Aa (limbs n).length ca),(1,.slice Ab (limbs m).length cb),(12,.int .i64 ((limbs n).length:Int)),(13,.int .i64 (i:Int))]) (limbs n).length ⟨0,rfl,Nat.zero_le _,fun j hj=>absurd hj (Nat.not_lt_zero _),Ext.refl w,rfl⟩ ?_
   rintro k _ W ⟨i,rfl,hi,hj,hE,rfl⟩
   by_cases hin:i<(limbs n).length
   · repeat refine Pl.az ?_
     refine Pl.ay (by kernel_rfl) ?_
     refine Pl.aI (v:=.bool true) trivial rfl rfl rfl rfl rfl rfl (fun X=>jw (decide_eq_true (by omega)) X) ?_
     refine Pl.ak ?_
     repeat refine Pl.az ?_
     refine Pl.dh rfl ?_
     repeat refine Pl.az ?_
     refine Pl.bN ?_
     repeat refine Pl.az ?_
     refine Pl.cK ?_
     repeat refine Pl.az ?_
     refine Pl.ay (by kernel_rfl) ?_
     refine Pl.ah trivial rfl rfl rfl rfl rfl ?_
     refine Pl.aj trivial rfl rfl rfl rfl rfl ?_
     refine Pl.ak ?_
     obtain ⟨p1,hi1,hl1⟩:=U.at ha hin
     obtain ⟨p2,hi2,hl2⟩:=U.at hb (show i<(limbs m).length by omega)
     obtain ⟨bb,hbb⟩:∃ bb,(lb (limbs n) i != lb (limbs m) i)=bb:=⟨_,rfl⟩
     repeat refine Pl.az ?_
     refine Pl.iN (S:=fun X=>Ext w X) [(true,0,0),(true,1,1),(true,2,3),(true,3,7),(true,4,15),(true,5,31),(true,6,63),(true,7,127),(true,8,255)] fo (by repeat first | exact Pl.aD | refine Pl.gW ?_ | refine Pl.jc ?_ | refine Pl.mW ?_) (by kernel_rfl) (hE.below (Ext.drew (Ext.refl W))) ?_
     have hB2:=Ext.drew (Ext.refl W)
     have hE2:=hE.below hB2
     generalize W.drew=W2 at *
     intro hS2
     refine Pl.ah hS2 rfl rfl rfl rfl rfl ?_
     refine Pl.ah hS2 rfl rfl rfl rfl rfl ?_
     refine aP hS2 rfl rfl rfl rfl rfl rfl (hi1) ?_
     refine Pl.aR hS2 rfl rfl rfl rfl rfl (fun X hX=>hl1 X hX) ?_
     refine Pl.ah hS2 rfl rfl rfl rfl rfl ?_
     refine Pl.ah hS2 rfl rfl rfl rfl rfl ?_
     refine aP hS2 rfl rfl rfl rfl rfl rfl (hi2) ?_
     refine Pl.aR hS2 rfl rfl rfl rfl rfl (fun X hX=>hl2 X hX) ?_
     refine Pl.aI (v:=.bool bb) hS2 rfl rfl rfl rfl rfl rfl (fun X=>al4 hbb X) ?_
     refine Pl.ak ?_
     cases bb
     · have heq:lb (limbs n) i=lb (limbs m) i:=by simpa using hbb
       repeat refine Pl.az ?_
       refine Pl.bD rfl ?_
       repeat refine Pl.az ?_
       refine Pl.bN ?_
       refine Pl.bZ ?_
       repeat refine Pl.az ?_
       refine Pl.ay (by kernel_rfl) ?_
       refine Pl.aI (v:=.int .i64 ((i+1:Nat):Int)) trivial rfl rfl rfl rfl rfl rfl (fun X=>mM (by omega) (by omega) (by omega) X) ?_
       refine Pl.ah trivial rfl rfl rfl rfl rfl ?_
       refine Pl.ak ?_
       exact Pl.iY [(0,.slice Aa (limbs n).length ca),(1,.slice Ab (limbs m).length cb),(12,.int .i64 ((limbs n).length:Int)),(13,.int .i64 (((i+1:Nat):Int):Int))] (Pl.aa rfl (Pl.aa rfl (Pl.aa rfl (Pl.aa rfl Pl.aK)))) (show (limbs n).length-(i+1)<(limbs n).length-i by omega) ⟨i+1,rfl,by omega,fun j hj2=>(Nat.lt_succ_iff_lt_or_eq.1 hj2).elim (hj j) (fun h=>by rw [h];exact heq),hE2,rfl⟩
     · have hne:lb (limbs n) i≠lb (limbs m) i:=by simpa using hbb
       repeat refine Pl.az ?_
       refine Pl.dh rfl ?_
       repeat refine Pl.az ?_
       refine Pl.ay (by kernel_rfl) ?_
       refine Pl.aj trivial rfl rfl rfl rfl rfl ?_
       refine Pl.ak ?_
       repeat refine Pl.az ?_
       refine Pl.BS fun a2 ha2=>?_
       repeat first | refine Pl.Yt ?_ | refine Pl.abO ?_ | refine Pl.xK ?_
       exact Pl.ahO ha2 rfl rfl ⟨by rw [decide_eq_false (fun e=>hne (by rw [e]))],hE2⟩
   · repeat refine Pl.az ?_
     refine Pl.ay (by kernel_rfl) ?_
     refine Pl.aI (v:=.bool false) trivial rfl rfl rfl rfl rfl rfl (fun X=>jw (decide_eq_false (by omega)) X) ?_
     refine Pl.ak ?_
     repeat refine Pl.az ?_
     refine Pl.bD rfl ?_
     repeat refine Pl.az ?_
     refine Pl.jE ?_
     repeat refine Pl.az ?_
     refine Pl.ay (by kernel_rfl) ?_
     refine Pl.aj trivial rfl rfl rfl rfl rfl ?_
     refine Pl.ak ?_
     exact Pl.bU rfl rfl ⟨by rw [decide_eq_true (Yr hl fun j h=>hj j (by omega))],hE⟩
 · repeat refine Pl.az ?_
   refine Pl.ay (by kernel_rfl) ?_
   refine Pl.ah trivial rfl rfl rfl rfl rfl ?_
   refine bG trivial rfl rfl rfl rfl rfl ?_
   refine Pl.ah trivial rfl rfl rfl rfl rfl ?_
   refine bG trivial rfl rfl rfl rfl rfl ?_
   refine Pl.aI (v:=.bool true) trivial rfl rfl rfl rfl rfl rfl (fun X=>abN (by simp;omega) X) ?_
   refine Pl.ak ?_
   repeat refine Pl.az ?_
   refine Pl.dh rfl ?_
   repeat refine Pl.az ?_
   refine Pl.ay (by kernel_rfl) ?_
   refine Pl.aj trivial rfl rfl rfl rfl rfl ?_
   refine Pl.ak ?_
   exact Pl.bU rfl rfl ⟨by rw [decide_eq_false (fun e=>hl (by rw [e]))],Ext.refl w⟩
theorem vW (w:World) (va vb vm:Value) (N:Nat) (T:TypeId) (a b m:Nat) (ha:Un w va a) (hb:Un w vb b) (hN:Cb w N T [vm]) (hm:Un w vm m) (hla:Sn a 100) (hlb:Sn b 100) (hlm:Sn m 100) (h0:m≠0) :
  Calls Tryz.prog 62 #[va,vb,.pointer (some ⟨N,0,none⟩)] w fun e w'=>∃ z,e = .returned z∧Un w' z (a*b%m)∧Ext w w':=by
 refine Pl.aV (n:=19) (vs:=[va,vb,.pointer (some ⟨N,0,none⟩)]) Tryz.func62 rfl (by kernel_rfl) (by simp) ?_
 repeat refine Pl.az ?_
 refine Pl.ay (by kernel_rfl) ?_
 refine Pl.aj trivial rfl rfl rfl rfl rfl ?_
 refine Pl.ak ?_
 obtain ⟨Am,cm,rfl,-⟩:=Un.sh hm
 repeat refine Pl.az ?_
 refine Pl.iN (S:=fun X=>Cb X N T [.slice Am (limbs m).length cm]) [(true,0,0),(true,1,1),(true,3,3),(false,2,11),(false,4,15),(true,5,31),(true,6,63),(true,7,127),(true,8,255),(true,9,511),(true,10,1023),(true,11,2047)] fo Pl.aD (by kernel_rfl) (Cb.ext hN (Ext.drew (Ext.refl w))) ?_
 have hB1:=Ext.drew (Ext.refl w)
 generalize w.drew=w1 at *
 intro hS1
 refine Pl.ah hS1 rfl rfl rfl rfl rfl ?_
 refine Pl.ah hS1 rfl rfl rfl rfl rfl ?_
 refine Pl.aR hS1 rfl rfl rfl rfl rfl (fun X hX=>Cb.limbs hX) ?_
 refine Pl.aA rfl rfl rfl rfl rfl (fun u X=>Pl.enters Tryz.func63 (by kernel_rfl) rfl u X) ?_
 refine Calls.mono (mulN _ _ _ a b _ (Un.below ha hB1) (Un.below hb hB1) (Nat.le_trans hla (by decide)) (Nat.le_trans hlb (by decide)) rfl) ?_
 rintro e w2 ⟨v2,rfl,h2,hB2⟩
 have b2:Sn (a*b) 200:=Sn.mul hla hlb (by decide)
 have hS2:=Cb.ext hS1 hB2
 refine ⟨_,rfl,(Cb.ext hS1 hB2),?_⟩
 refine Pl.aA rfl rfl rfl rfl rfl (fun u X=>Pl.enters Tryz.func58 (by kernel_rfl) rfl u X) ?_
 refine Calls.mono (qh _ _ _ (a*b) m _ _ h2 (Un.below hm (hB1.below hB2)) (Nat.le_trans b2 (by decide)) (Nat.le_trans hlm (by decide)) h0 rfl rfl) ?_
 rintro e w3 ⟨⟨v3,v4,rfl,h3,h4⟩,hB3⟩
 have Ex:=Cb.ext hS2 hB3
 refine ⟨_,rfl,(Cb.ext hS2 hB3),?_⟩
 refine Pl.ah Ex rfl rfl rfl rfl rfl ?_
 refine Pl.aB Ex rfl rfl rfl rfl rfl rfl ?_
 refine Pl.aB Ex rfl rfl rfl rfl rfl rfl ?_
 refine Pl.aB Ex rfl rfl rfl rfl rfl rfl ?_
 refine Pl.aj Ex rfl rfl rfl rfl rfl ?_
 refine Pl.aj Ex rfl rfl rfl rfl rfl ?_
 refine Pl.aj Ex rfl rfl rfl rfl rfl ?_
 refine Pl.ak ?_
 repeat refine Pl.az ?_
 refine Pl.ay (by kernel_rfl) ?_
 refine Pl.ah trivial rfl rfl rfl rfl rfl ?_
 refine Pl.aj trivial rfl rfl rfl rfl rfl ?_
 refine Pl.ak ?_
 exact Pl.bU rfl rfl ⟨_,rfl,h4,hB1.below (hB2.below hB3)⟩
end Go.Proofs.YtnilonnkcbkdmaaGreatDoor
/- Powers modulo a natural. -/
namespace Go.Proofs.YtnilonnkcbkdmaaGreatDoor
open Go.RowKit
set_option linter.all false
set_option maxRecDepth 100000
set_option maxHeartbeats 8000000
theorem ixP (N:Nat) {j:Nat} (hj:j<16) (X:World):(Instr.indexAt 87 (.pointer (some ⟨N,0,none⟩)) (.int .i64 (j:Int))).run Tryz.prog X = .ok (.pointer (some ⟨N,j,none⟩)) X:=by
 have h1:(j:Int)<16:=by omega
 have h0:(0:Int)≤(j:Int):=by omega
 have e:(⟨N,0,none⟩:Addr).add j=⟨N,j,none⟩:=by rw [Addr.add_mid,Nat.zero_add]
 go_simp
theorem Cb.M3 {w:World} {N:Nat} {T:TypeId} {cs:List Value} {A0:Option Addr} {n0 c0:Nat} (h:Cb w N T cs) {j:Nat} (hj:cs[j]?=some (.slice A0 n0 c0)) (A:Option Addr) (n c:Nat):(Instr.storeAt 22 (.pointer (some ⟨N,j,none⟩)) (.slice A n c)).run Tryz.prog w = .ok () (w.setCell ⟨N,j,none⟩ (.slice A n c)):=by
 have hc:=h.cellAt hj
 have hf:w.frozen? ⟨N,j,none⟩=false:=by unfold Cb at h;simp [World.frozen?,h]
 clear h hj
 go_simp
def BZ (w:World) (a m i:Nat) (cs:List Value):Prop:=cs.length=16∧(∀ c∈cs,∃ A n k,c = .slice A n k)∧∀ j,j<i→∃ v,cs[j]?=some v∧Un w v (a^j%m)
theorem BZ.kp {w w':World} {a m i:Nat} {cs:List Value} (h:BZ w a m i cs) (k:Kp w w'):BZ w' a m i cs:=⟨h.1,h.2.1,fun j hj=>by obtain ⟨v,h1,h2⟩:=h.2.2 j hj;exact ⟨v,h1,Un.kp h2 k⟩⟩
theorem BZ.nl {w:World} {a m i:Nat} {cs:List Value} (h:BZ w a m i cs):∀ c∈cs,dQ c:=fun c hc k e=>by obtain ⟨A,n,q,rfl⟩:=h.2.1 c hc;cases e
theorem BZ.at {w:World} {a m i:Nat} {cs:List Value} (h:BZ w a m i cs) {j:Nat} (hj:j<16):∃ A n k,cs[j]?=some (.slice A n k):=by
 have hl:j<cs.length:=by rw [h.1];exact hj
 obtain ⟨A,n,k,e⟩:=h.2.1 cs[j] (List.getElem_mem hl)
 exact ⟨A,n,k,by rw [List.getElem?_eq_getElem hl,e]⟩
theorem BZ.set {w:World} {a m i:Nat} {cs:List Value} (h:BZ w a m i cs) (hi:i<16) {A:Option Addr} {n k:Nat} (hv:Un w (.slice A n k) (a^i%m)):BZ w a m (i+1) (cs.set i (.slice A n k)):=by
 refine ⟨by rw [List.length_set];exact h.1,fun c hc=>?_,fun j hj=>?_⟩
 · rcases List.mem_or_eq_of_mem_set hc with h1 | h1
   · exact h.2.1 c h1
   · exact ⟨_,_,_,h1⟩
 · rcases Nat.lt_succ_iff_lt_or_eq.1 hj with h1 | h1
   · obtain ⟨v,e,hv⟩:=h.2.2 j h1
     exact ⟨v,by rw [List.getElem?_set_ne (by omega)];exact e,hv⟩
   · subst h1
     exact ⟨_,by rw [List.getElem?_set_self (by rw [h.1];exact hi)],hv⟩
section
variable {x y:Operand}
theorem al5 {a b:Nat} {z:Int} (hz:z=(b:Int)) (h0:0<b) (ha:a≤1000000000) (X:World):(do eqGuard .quo 3 x y (.int .i64 (a:Int)) (.int .i64 z);binOp .quo 3 (.int .i64 (a:Int)) (.int .i64 z):Sem Value).run Tryz.prog X = .ok (.int .i64 ((a/b:Nat):Int)) X:=by
 subst hz
 have hc:=Nat.div_le_self a b
 have e:Int.tdiv (a:Int) (b:Int)=((a/b:Nat):Int):=rfl
 have hz:¬ ((b:Int)=0):=by omega
 have hn:¬ b=0:=by omega
 generalize a/b=c at *
 have w1:IntKind.i64.wrap (c:Int)=(c:Int):=IntWalk.i64_in _ (by omega)
 clear hc
 go_simp
end
theorem al6 {a:Nat} (ha:a<4294967296) (X:World):(convert 43 3 (.int .u32 (a:Int))).run Tryz.prog X = .ok (.int .i64 (a:Int)) X:=by
 have w1:IntKind.i64.wrap (a:Int)=(a:Int):=IntWalk.i64_in _ (by omega)
 go_simp
theorem ar9 {a m E s z:Nat} (hz:z=a^(E*2^s)%m):z*z%m=a^(E*2^(s+1))%m:=by
 rw [hz,← Nat.mul_mod,← Nat.pow_add,Nat.pow_succ,← Nat.mul_assoc]
 congr 2
 omega
theorem ar' {e p s at':Nat} (h:at'=e/2^(p+1)%2^s):2*at'+e/2^p%2=e/2^p%2^(s+1):=by
 have h1:e/2^(p+1)=e/2^p/2:=by rw [Nat.div_div_eq_div_mul,← Nat.pow_succ]
 rw [h,h1,Nat.pow_succ,Nat.mul_comm (2^s) 2,Nat.mod_mul]
 omega
theorem al7 {a m e k z:Nat} (hz:z=a^(e/2^(4*(k+1))*2^4)%m):z*(a^(e/2^(4*k)%2^4)%m)%m=a^(e/2^(4*k))%m:=by
 have h1:e/2^(4*(k+1))=e/2^(4*k)/2^4:=by rw [Nat.div_div_eq_div_mul,← Nat.pow_add];congr 2
 rw [hz,← Nat.mul_mod,← Nat.pow_add,h1,Nat.mul_comm (_/2^4) (2^4),Nat.div_add_mod]
theorem Ph (w:World) (va ve vm:Value) (a e m:Nat) (ha:Un w va a) (he:Un w ve e) (hm:Un w vm m) (hla:Sn a 100) (hle:Sn e 100) (hlm:Sn m 100) (h0:m=0) :
  Calls Tryz.prog 26 #[va,ve,vm] w fun en w'=>en = .returned (.tuple #[.slice none 0 0,.int .i64 3])∧Ext w w':=by
 obtain ⟨Am,cm,rfl,-⟩:=Un.sh hm
 obtain ⟨Ae,ce,rfl,-⟩:=Un.sh he
 have hbe:=M4 hle
 refine Pl.aV (n:=78) (vs:=[va,.slice Ae (limbs e).length ce,.slice Am (limbs m).length cm]) Tryz.func26 rfl (by kernel_rfl) (by simp) ?_
 repeat refine Pl.az ?_
 refine Pl.ay (by kernel_rfl) ?_
 refine al8 rfl rfl rfl rfl rfl (fun _ _=>trivial) ?_
 intro N w1 hB1 kN
 refine Pl.aj trivial rfl rfl rfl rfl rfl ?_
 refine Pl.aj trivial rfl rfl rfl rfl rfl ?_
 refine Pl.ak ?_
 repeat refine Pl.az ?_
 refine Pl.ay (by kernel_rfl) ?_
 refine cO (n:=1) (by decide) rfl rfl rfl rfl rfl (fun _ _=>trivial) ?_
 intro A1 w2 hB2 us1
 have b1:Sn 1 1:=Sn.small (by decide)
 refine Pl.aH trivial rfl rfl rfl rfl rfl (Cb.limbs (Cb.ext kN hB2)) ?_
 refine Pl.aA rfl rfl rfl rfl rfl (fun u X=>Pl.enters Tryz.func58 (by kernel_rfl) rfl u X) ?_
 refine Calls.mono (OU _ _ _ 1 (U.one us1) (by rw [← h0];exact Un.below hm (hB1.below hB2)) (b1.le (by decide))) ?_
 rintro e w3 ⟨rfl,hB3⟩
 refine ⟨_,rfl,trivial,?_⟩
 refine Pl.ah trivial rfl rfl rfl rfl rfl ?_
 refine Pl.aB trivial rfl rfl rfl rfl rfl rfl ?_
 refine Pl.aB trivial rfl rfl rfl rfl rfl rfl ?_
 refine Pl.aB trivial rfl rfl rfl rfl rfl rfl ?_
 refine Pl.aj trivial rfl rfl rfl rfl rfl ?_
 refine Pl.aj trivial rfl rfl rfl rfl rfl ?_
 refine Pl.aj trivial rfl rfl rfl rfl rfl ?_
 refine Pl.ak ?_
 repeat refine Pl.az ?_
 refine Pl.ay (by kernel_rfl) ?_
 refine Pl.ah trivial rfl rfl rfl rfl rfl ?_
 refine Pl.aI (v:=.bool true) trivial rfl rfl rfl rfl rfl rfl (fun X=>by go_simp) ?_
 refine Pl.ak ?_
 repeat refine Pl.az ?_
 refine Pl.dh rfl ?_
 repeat refine Pl.az ?_
 refine Pl.ay (by kernel_rfl) ?_
 refine Pl.ah trivial rfl rfl rfl rfl rfl ?_
 refine Pl.aj trivial rfl rfl rfl rfl rfl ?_
 refine Pl.aj trivial rfl rfl rfl rfl rfl ?_
 refine Pl.ak ?_
 exact Pl.iV rfl rfl rfl ⟨rfl,hB1.below (hB2.below hB3)⟩
theorem jF (w:World) (va ve vm:Value) (a e m:Nat) (ha:Un w va a) (he:Un w ve e) (hm:Un w vm m) (hla:Sn a 100) (hle:Sn e 100) (hlm:Sn m 100) (h0:m≠0) :
  Calls Tryz.prog 26 #[va,ve,vm] w fun en w'=>∃ z,en = .returned (.tuple #[z,.int .i64 0])∧Un w' z (a^e%m)∧Ext w w':=by
 obtain ⟨Am,cm,rfl,-⟩:=Un.sh hm
 obtain ⟨Ae,ce,rfl,-⟩:=Un.sh he
 have hbe:=M4 hle
 refine Pl.aV (n:=78) (vs:=[va,.slice Ae (limbs e).length ce,.slice Am (limbs m).length cm]) Tryz.func26 rfl (by kernel_rfl) (by simp) ?_
 repeat refine Pl.az ?_
 refine Pl.ay (by kernel_rfl) ?_
 refine al8 rfl rfl rfl rfl rfl (fun _ _=>trivial) ?_
 intro N w1 hB1 kN
 refine Pl.aj trivial rfl rfl rfl rfl rfl ?_
 refine Pl.aj trivial rfl rfl rfl rfl rfl ?_
 refine Pl.ak ?_
 repeat refine Pl.az ?_
 refine Pl.ay (by kernel_rfl) ?_
 refine cO (n:=1) (by decide) rfl rfl rfl rfl rfl (fun _ _=>trivial) ?_
 intro A1 w2 hB2 us1
 have b1:Sn 1 1:=Sn.small (by decide)
 refine Pl.aH trivial rfl rfl rfl rfl rfl (Cb.limbs (Cb.ext kN hB2)) ?_
 refine Pl.aA rfl rfl rfl rfl rfl (fun u X=>Pl.enters Tryz.func58 (by kernel_rfl) rfl u X) ?_
 refine Calls.mono (qh _ _ _ 1 m _ _ (U.one us1) (Un.below hm (hB1.below hB2)) (b1.le (by decide)) (Nat.le_trans hlm (by decide)) h0 rfl rfl) ?_
 rintro e w3 ⟨⟨v1,v2,rfl,hq1,hr1⟩,hB3⟩
 refine ⟨_,rfl,trivial,?_⟩
 refine Pl.ah trivial rfl rfl rfl rfl rfl ?_
 refine Pl.aB trivial rfl rfl rfl rfl rfl rfl ?_
 refine Pl.aB trivial rfl rfl rfl rfl rfl rfl ?_
 refine Pl.aB trivial rfl rfl rfl rfl rfl rfl ?_
 refine Pl.aj trivial rfl rfl rfl rfl rfl ?_
 refine Pl.aj trivial rfl rfl rfl rfl rfl ?_
 refine Pl.aj trivial rfl rfl rfl rfl rfl ?_
 refine Pl.ak ?_
 repeat refine Pl.az ?_
 refine Pl.ay (by kernel_rfl) ?_
 refine Pl.ah trivial rfl rfl rfl rfl rfl ?_
 refine Pl.aI (v:=.bool false) trivial rfl rfl rfl rfl rfl rfl (fun X=>by go_simp) ?_
 refine Pl.ak ?_
 repeat refine Pl.az ?_
 refine Pl.bD rfl ?_
 repeat refine Pl.az ?_
 refine Pl.bN ?_
 repeat refine Pl.az ?_
 refine Pl.ay (by kernel_rfl) ?_
 refine Pl.oJ trivial rfl rfl rfl rfl rfl rfl ?_
 refine Pl.aj trivial rfl rfl rfl rfl rfl ?_
 refine Pl.ak ?_
 obtain ⟨A2,c2,rfl,-⟩:=Un.sh hr1
 have kN3:=Cb.ext kN (hB2.below hB3)
 have pE:=hB1.below (hB2.below hB3)
 repeat refine Pl.az ?_
 refine Pl.ay (by kernel_rfl) ?_
 refine Pl.ah trivial rfl rfl rfl rfl rfl ?_
 refine Pl.dV (v:=.agg ([.slice A2 (limbs (1%m)).length c2,.slice none 0 0,.slice none 0 0,.slice none 0 0,.slice none 0 0,.slice none 0 0,.slice none 0 0,.slice none 0 0,.slice none 0 0,.slice none 0 0,.slice none 0 0,.slice none 0 0,.slice none 0 0,.slice none 0 0,.slice none 0 0,.slice none 0 0]:List Value).toArray) trivial rfl rfl rfl (fun ρ hρ X _=>by have e1:=hρ.tmp 28 _ rfl;simp [go_sem,e1]) ?_
 refine eH rfl rfl rfl rfl (z:=.agg ([.slice none 0 0,.slice none 0 0,.slice none 0 0,.slice none 0 0,.slice none 0 0,.slice none 0 0,.slice none 0 0,.slice none 0 0,.slice none 0 0,.slice none 0 0,.slice none 0 0,.slice none 0 0,.slice none 0 0,.slice none 0 0,.slice none 0 0,.slice none 0 0]:List Value).toArray) (by kernel_rfl) (fun _ _=>trivial) ?_
 intro Np w4 hB4 hNp kp4
 replace kp4:Cb w4 Np 87 [.slice none 0 0,.slice none 0 0,.slice none 0 0,.slice none 0 0,.slice none 0 0,.slice none 0 0,.slice none 0 0,.slice none 0 0,.slice none 0 0,.slice none 0 0,.slice none 0 0,.slice none 0 0,.slice none 0 0,.slice none 0 0,.slice none 0 0,.slice none 0 0]:=kp4
 refine fT (new:=[.slice A2 (limbs (1%m)).length c2,.slice none 0 0,.slice none 0 0,.slice none 0 0,.slice none 0 0,.slice none 0 0,.slice none 0 0,.slice none 0 0,.slice none 0 0,.slice none 0 0,.slice none 0 0,.slice none 0 0,.slice none 0 0,.slice none 0 0,.slice none 0 0,.slice none 0 0]) kp4 rfl rfl rfl rfl rfl rfl (by kernel_rfl) rfl (by simp [Value.oneCell']) trivial ?_
 have kp5:=Cb.put kp4 [.slice A2 (limbs (1%m)).length c2,.slice none 0 0,.slice none 0 0,.slice none 0 0,.slice none 0 0,.slice none 0 0,.slice none 0 0,.slice none 0 0,.slice none 0 0,.slice none 0 0,.slice none 0 0,.slice none 0 0,.slice none 0 0,.slice none 0 0,.slice none 0 0,.slice none 0 0]
 have x5:Xt [Np] w4 (w4.setRow Np ([.slice A2 (limbs (1%m)).length c2,.slice none 0 0,.slice none 0 0,.slice none 0 0,.slice none 0 0,.slice none 0 0,.slice none 0 0,.slice none 0 0,.slice none 0 0,.slice none 0 0,.slice none 0 0,.slice none 0 0,.slice none 0 0,.slice none 0 0,.slice none 0 0,.slice none 0 0]:List Value).toArray):=Xt.put kp4 (by intro c hc k e;simp at hc;subst hc;cases e) (by simp) _
 have hwp:w.heap.size≤Np:=Nat.le_trans pE.size hNp
 have hnp:N≠Np:=by have:=kN3.lt;omega
 have zx:=x5.cb (Cb.ext kN3 hB4) (by simpa using hnp)
 have zS:=(pE.below hB4).xt x5 (by simpa using hwp)
 have hr5:=Un.kp (Un.below hr1 hB4) x5.kp
 generalize w4.setRow Np ([.slice A2 (limbs (1%m)).length c2,.slice none 0 0,.slice none 0 0,.slice none 0 0,.slice none 0 0,.slice none 0 0,.slice none 0 0,.slice none 0 0,.slice none 0 0,.slice none 0 0,.slice none 0 0,.slice none 0 0,.slice none 0 0,.slice none 0 0,.slice none 0 0,.slice none 0 0]:List Value).toArray=w5 at *
 refine Pl.ak ?_
 have hP5:BZ w5 a m 1 [.slice A2 (limbs (1%m)).length c2,.slice none 0 0,.slice none 0 0,.slice none 0 0,.slice none 0 0,.slice none 0 0,.slice none 0 0,.slice none 0 0,.slice none 0 0,.slice none 0 0,.slice none 0 0,.slice none 0 0,.slice none 0 0,.slice none 0 0,.slice none 0 0,.slice none 0 0]:=⟨rfl,(by intro c hc;simp at hc;rcases hc with rfl | rfl<;>exact ⟨_,_,_,rfl⟩),(by intro j hj;have h:j=0:=(by omega);subst h;exact ⟨_,rfl,by rw [Nat.pow_zero];exact hr5⟩)⟩
 repeat refine Pl.az ?_
 refine Pl.ay (by kernel_rfl) ?_
 refine Pl.aj trivial rfl rfl rfl rfl rfl ?_
 refine Pl.ak ?_
 have hz1:Sn (1%m) 100:=Sn.mod hlm h0
 have hzm:∀ x,Sn (x%m) 100:=fun x=>Sn.mod hlm h0
 repeat refine Pl.az ?_
 refine Pl.kS [(0,va),(1,.slice Ae (limbs e).length ce),(9,.slice A2 (limbs (1%m)).length c2),(11,.func (.func 62) #[] #[.pointer (some ⟨N,0,none⟩)]),(12,.pointer (some ⟨Np,0,none⟩)),(13,.int .i64 ((1:Nat):Int))] (Pl.aa rfl (Pl.aa rfl (Pl.aa rfl (Pl.aa rfl (Pl.aa rfl (Pl.aa rfl Pl.aK)))))) ?_
 repeat refine Pl.az ?_
 refine Pl.cK ?_
 repeat refine Pl.az ?_
 refine Pl.mU (fun k l' w'=>∃ (i:Nat) (cs:List Value),k=16-i∧1≤i∧i≤16∧BZ w' a m i cs∧Cb w' Np 87 cs∧Cb w' N 22 [.slice Am (limbs m).length cm]∧Ext w w'∧Un w' (.slice A2 (limbs (1%m)).length c2) (1%m)∧l'=[(0,va),(1,.slice Ae (limbs e).length ce),(9,.slice A2 (limbs (1%m)).length c2),(11,.func (.func 62) #[] #[.pointer (some ⟨N,0,none⟩)]),(12,.pointer (some ⟨Np,0,none⟩)),(13,.int .i64 (i:Int))]) 15 ⟨1,_,rfl,Nat.le_refl _,by omega,hP5,kp5,zx,zS,hr5,rfl⟩ ?_
 rintro k _ W ⟨i,cs,rfl,hi1,hi,hP,kp,kN,hE,hz,rfl⟩
 by_cases hin:i<16
 · repeat refine Pl.az ?_
   refine Pl.ay (by kernel_rfl) ?_
   refine Pl.ah trivial rfl rfl rfl rfl rfl ?_
   refine Pl.aI (v:=.bool true) trivial rfl rfl rfl rfl rfl rfl (fun X=>jw (decide_eq_true (by omega)) X) ?_
   refine Pl.ak ?_
   repeat refine Pl.az ?_
   refine Pl.dh rfl ?_
   repeat refine Pl.az ?_
   refine Pl.bN ?_
   repeat refine Pl.az ?_
   refine Pl.cK ?_
   obtain ⟨vp,hvp,hup⟩:=hP.2.2 (i-1) (by omega)
   obtain ⟨Ap,cp,rfl,-⟩:=Un.sh hup
   obtain ⟨A0,n0,c0,hv0⟩:=hP.at hin
   have hpe:a^(i-1)%m*a%m=a^i%m:=by rw [Nat.mod_mul_mod,← Nat.pow_succ];congr 2;omega
   repeat refine Pl.az ?_
   refine Pl.ay (by kernel_rfl) ?_
   refine Pl.ah trivial rfl rfl rfl rfl rfl ?_
   refine Pl.ah trivial rfl rfl rfl rfl rfl ?_
   refine Pl.ah trivial rfl rfl rfl rfl rfl ?_
   refine Pl.aI (v:=.int .i64 ((i-1:Nat):Int)) trivial rfl rfl rfl rfl rfl rfl (fun X=>j6 (by omega) (by omega) (by omega) X) ?_
   refine aP trivial rfl rfl rfl rfl rfl rfl (ixP Np (show i-1<16 by omega)) ?_
   refine Pl.aH trivial rfl rfl rfl rfl rfl (Cb.fO kp hvp) ?_
   refine Pl.ah trivial rfl rfl rfl rfl rfl ?_
   refine Pl.iB rfl rfl rfl rfl rfl rfl (fun u X=>Pl.enters Tryz.func62 (by kernel_rfl) rfl u X) ?_
   refine Calls.mono (vW _ _ _ _ N _ _ a m hup (Un.below ha hE) kN (Un.below hm hE) (hzm _) hla hlm h0) ?_
   rintro e W2 ⟨z,rfl,hz2,hB2⟩
   rw [hpe] at hz2
   obtain ⟨Az,cz,rfl,-⟩:=Un.sh hz2
   have kp2:=Cb.ext kp hB2
   refine ⟨_,rfl,trivial,?_⟩
   refine aP trivial rfl rfl rfl rfl rfl rfl (ixP Np hin) ?_
   refine Pl.bT rfl rfl rfl rfl rfl rfl (Cb.M3 kp2 hv0 Az (limbs (a^i%m)).length cz) trivial ?_
   have x3:=Xt.set (Bs:=[Np]) kp2 hP.nl (by simp) i (.slice Az (limbs (a^i%m)).length cz)
   have kp3:=Cb.set kp2 i (.slice Az (limbs (a^i%m)).length cz)
   have hP3:=((hP.kp (Kp.ext hB2)).set hin hz2).kp x3.kp
   have kN3:=x3.cb (Cb.ext kN hB2) (by simpa using hnp)
   have pE:=(hE.below hB2).xt x3 (by simpa using hwp)
   have hz3:=Un.kp (Un.below hz hB2) x3.kp
   generalize W2.setCell ⟨Np,i,none⟩ (.slice Az (limbs (a^i%m)).length cz)=W3 at *
   refine Pl.ak ?_
   refine Pl.bZ ?_
   repeat refine Pl.az ?_
   refine Pl.ay (by kernel_rfl) ?_
   refine Pl.ah trivial rfl rfl rfl rfl rfl ?_
   refine Pl.aI (v:=.int .i64 ((i+1:Nat):Int)) trivial rfl rfl rfl rfl rfl rfl (fun X=>mM (by omega) (by omega) (by omega) X) ?_
   refine Pl.aj trivial rfl rfl rfl rfl rfl ?_
   refine Pl.ak ?_
   exact Pl.iY [(0,va),(1,.slice Ae (limbs e).length ce),(9,.slice A2 (limbs (1%m)).length c2),(11,.func (.func 62) #[] #[.pointer (some ⟨N,0,none⟩)]),(12,.pointer (some ⟨Np,0,none⟩)),(13,.int .i64 ((i+1:Nat):Int))] (Pl.aa rfl (Pl.aa rfl (Pl.aa rfl (Pl.aa rfl (Pl.aa rfl (Pl.aa rfl Pl.aK)))))) (show 16-(i+1)<16-i by omega) ⟨i+1,_,rfl,by omega,by omega,hP3,kp3,kN3,pE,hz3,rfl⟩
 obtain rfl:i=16:=by omega
 repeat refine Pl.az ?_
 refine Pl.ay (by kernel_rfl) ?_
 refine Pl.ah trivial rfl rfl rfl rfl rfl ?_
 refine Pl.aI (v:=.bool false) trivial rfl rfl rfl rfl rfl rfl (fun X=>jw (decide_eq_false (by omega)) X) ?_
 refine Pl.ak ?_
 repeat refine Pl.az ?_
 refine Pl.bD rfl ?_
 repeat refine Pl.az ?_
 refine Pl.jE ?_
 obtain ⟨k0,hk0⟩:∃ k0,(bS e+3)/4=k0:=⟨_,rfl⟩
 repeat refine Pl.az ?_
 refine Pl.ay (by kernel_rfl) ?_
 refine Pl.ah trivial rfl rfl rfl rfl rfl ?_
 refine Pl.aA rfl rfl rfl rfl rfl (fun u X=>Pl.enters Tryz.func64 (by kernel_rfl) rfl u X) ?_
 refine Calls.mono (aa2 _ _ e (Un.below he hE) (Nat.le_trans hle (by decide)) _ rfl) ?_
 rintro e W1 ⟨rfl,abP⟩
 refine ⟨_,rfl,trivial,?_⟩
 refine Pl.aI (v:=.int .i64 ((bS e+4:Nat):Int)) trivial rfl rfl rfl rfl rfl rfl (fun X=>mM (by omega) (by omega) (by omega) X) ?_
 refine Pl.aI (v:=.int .i64 ((bS e+3:Nat):Int)) trivial rfl rfl rfl rfl rfl rfl (fun X=>j6 (by omega) (by omega) (by omega) X) ?_
 refine Pl.aI (v:=.int .i64 (((bS e+3)/4:Nat):Int)) trivial rfl rfl rfl rfl rfl rfl (fun X=>al5 (b:=4) rfl (by decide) (by omega) X) ?_
 refine Pl.aI (v:=.int .i64 ((k0:Int)-1)) trivial rfl rfl rfl rfl rfl rfl (fun X=>j6 (by rw [hk0]) (by omega) (by omega) X) ?_
 refine Pl.aj trivial rfl rfl rfl rfl rfl ?_
 refine Pl.ak ?_
 have Yc:=Cb.ext kp abP
 have kN1:=Cb.ext kN abP
 have hP1:=hP.kp (Kp.ext abP)
 have hE1:=hE.below abP
 have hz1b:=Un.below hz abP
 have hek:e/2^(4*k0)=0:=Nat.div_eq_of_lt (Nat.lt_of_lt_of_le (dI e) (Nat.pow_le_pow_right (by decide) (by omega)))
 repeat refine Pl.az ?_
 refine Pl.kS [(0,va),(1,.slice Ae (limbs e).length ce),(11,.func (.func 62) #[] #[.pointer (some ⟨N,0,none⟩)]),(12,.pointer (some ⟨Np,0,none⟩)),(9,.slice A2 (limbs (1%m)).length c2),(14,.int .i64 ((k0:Int)-1))] (Pl.aa rfl (Pl.aa rfl (Pl.aa rfl (Pl.aa rfl (Pl.aa rfl (Pl.aa rfl Pl.aK)))))) ?_
 repeat refine Pl.az ?_
 refine Pl.cK ?_
 repeat refine Pl.az ?_
 refine Pl.mU (fun q l' w'=>∃ (k z:Nat) (vz:Value),q=k∧k≤k0∧z=a^(e/2^(4*k))%m∧Un w' vz z∧BZ w' a m 16 cs∧Cb w' Np 87 cs∧Cb w' N 22 [.slice Am (limbs m).length cm]∧Ext w w'∧l'=[(0,va),(1,.slice Ae (limbs e).length ce),(11,.func (.func 62) #[] #[.pointer (some ⟨N,0,none⟩)]),(12,.pointer (some ⟨Np,0,none⟩)),(9,vz),(14,.int .i64 ((k:Int)-1))]) k0 ⟨k0,1%m,_,rfl,Nat.le_refl _,by rw [hek,Nat.pow_zero],hz1b,hP1,Yc,kN1,hE1,rfl⟩ ?_
 rintro k _ X ⟨_,z,vz,rfl,hk,hze,hz,hP,kp,kN,hE,rfl⟩
 rcases Nat.eq_zero_or_pos k with hk1 | hk1
 · subst hk1
   repeat refine Pl.az ?_
   refine Pl.ay (by kernel_rfl) ?_
   refine Pl.ah trivial rfl rfl rfl rfl rfl ?_
   refine Pl.aI (v:=.bool false) trivial rfl rfl rfl rfl rfl rfl (fun X=>rV (decide_eq_false (by omega)) X) ?_
   refine Pl.ak ?_
   repeat refine Pl.az ?_
   refine Pl.bD rfl ?_
   repeat refine Pl.az ?_
   refine Pl.jE ?_
   repeat refine Pl.az ?_
   refine Pl.ay (by kernel_rfl) ?_
   refine Pl.ah trivial rfl rfl rfl rfl rfl ?_
   refine Pl.aj trivial rfl rfl rfl rfl rfl ?_
   refine Pl.aj trivial rfl rfl rfl rfl rfl ?_
   refine Pl.ak ?_
   have ayO:z=a^e%m:=by rw [hze,Nat.mul_zero,Nat.pow_zero,Nat.div_one]
   exact Pl.iV rfl rfl rfl ⟨_,rfl,by rw [← ayO];exact hz,hE⟩
 · obtain ⟨i,rfl⟩:∃ i,k=i+1:=⟨k-1,by omega⟩
   repeat refine Pl.az ?_
   refine Pl.ay (by kernel_rfl) ?_
   refine Pl.ah trivial rfl rfl rfl rfl rfl ?_
   refine Pl.aI (v:=.bool true) trivial rfl rfl rfl rfl rfl rfl (fun X=>rV (decide_eq_true (by omega)) X) ?_
   refine Pl.ak ?_
   repeat refine Pl.az ?_
   refine Pl.dh rfl ?_
   repeat refine Pl.az ?_
   refine Pl.bN ?_
   repeat refine Pl.az ?_
   refine Pl.cK ?_
   repeat refine Pl.az ?_
   refine Pl.ay (by kernel_rfl) ?_
   refine Pl.aj trivial rfl rfl rfl rfl rfl ?_
   refine Pl.ak ?_
   repeat refine Pl.az ?_
   refine Pl.ay (by kernel_rfl) ?_
   refine Pl.aj trivial rfl rfl rfl rfl rfl ?_
   refine Pl.ak ?_
   repeat refine Pl.az ?_
   refine Pl.kS [(0,va),(1,.slice Ae (limbs e).length ce),(11,.func (.func 62) #[] #[.pointer (some ⟨N,0,none⟩)]),(12,.pointer (some ⟨Np,0,none⟩)),(14,.int .i64 (((i+1:Nat):Int)-1)),(9,vz),(15,.int .i64 ((0:Nat):Int)),(16,.int .i64 (((4:Nat):Int)-1))] (Pl.aa rfl (Pl.aa rfl (Pl.aa rfl (Pl.aa rfl (Pl.aa rfl (Pl.aa rfl (Pl.aa rfl (Pl.aa rfl Pl.aK)))))))) ?_
   repeat refine Pl.az ?_
   refine Pl.cK ?_
   repeat refine Pl.az ?_
   refine Pl.mU (fun q l' w'=>∃ (t at' z:Nat) (vz:Value),q=t∧t≤4∧z=a^(e/2^(4*(i+1))*2^(4-t))%m∧at'=e/2^(4*i+t)%2^(4-t)∧Un w' vz z∧BZ w' a m 16 cs∧Cb w' Np 87 cs∧Cb w' N 22 [.slice Am (limbs m).length cm]∧Ext w w'∧l'=[(0,va),(1,.slice Ae (limbs e).length ce),(11,.func (.func 62) #[] #[.pointer (some ⟨N,0,none⟩)]),(12,.pointer (some ⟨Np,0,none⟩)),(14,.int .i64 (((i+1:Nat):Int)-1)),(9,vz),(15,.int .i64 (at':Int)),(16,.int .i64 ((t:Int)-1))]) 4 ⟨4,0,z,vz,rfl,Nat.le_refl _,by rw [hze,Nat.sub_self,Nat.pow_zero,Nat.mul_one],by rw [Nat.sub_self,Nat.pow_zero,Nat.mod_one],hz,hP,kp,kN,hE,rfl⟩ ?_
   clear hz hze hP kp kN hE
   rintro t _ X ⟨_,at',z,vz,rfl,ht,hze,hat,hz,hP,kp,kN,hE,rfl⟩
   have asa:at'<16:=by rw [hat];exact Nat.lt_of_lt_of_le (Nat.mod_lt _ (Nat.two_pow_pos _)) ((Nat.pow_le_pow_right (by decide) (by omega):2^(4-t)≤2^4))
   have hzs:Sn z 100:=by rw [hze];exact hzm _
   rcases Nat.eq_zero_or_pos t with ht1 | ht1
   · subst ht1
     repeat refine Pl.az ?_
     refine Pl.ay (by kernel_rfl) ?_
     refine Pl.ah trivial rfl rfl rfl rfl rfl ?_
     refine Pl.aI (v:=.bool false) trivial rfl rfl rfl rfl rfl rfl (fun X=>rV (decide_eq_false (by omega)) X) ?_
     refine Pl.ak ?_
     repeat refine Pl.az ?_
     refine Pl.bD rfl ?_
     repeat refine Pl.az ?_
     refine Pl.jE ?_
     obtain ⟨vp,hvp,hup⟩:=hP.2.2 at' asa
     obtain ⟨Ap,cp,rfl,-⟩:=Un.sh hup
     repeat refine Pl.az ?_
     refine Pl.ay (by kernel_rfl) ?_
     refine Pl.ah trivial rfl rfl rfl rfl rfl ?_
     refine Pl.ah trivial rfl rfl rfl rfl rfl ?_
     refine Pl.ah trivial rfl rfl rfl rfl rfl ?_
     refine aP trivial rfl rfl rfl rfl rfl rfl (ixP Np asa) ?_
     refine Pl.aH trivial rfl rfl rfl rfl rfl (Cb.fO kp hvp) ?_
     refine Pl.iB rfl rfl rfl rfl rfl rfl (fun u X=>Pl.enters Tryz.func62 (by kernel_rfl) rfl u X) ?_
     refine Calls.mono (vW _ _ _ _ N _ z _ m hz hup kN (Un.below hm hE) hzs (hzm _) hlm h0) ?_
     rintro e X2 ⟨z2,rfl,hz2,hB2⟩
     refine ⟨_,rfl,trivial,?_⟩
     refine Pl.aj trivial rfl rfl rfl rfl rfl ?_
     refine Pl.ak ?_
     refine Pl.bZ ?_
     repeat refine Pl.az ?_
     refine Pl.ay (by kernel_rfl) ?_
     refine Pl.ah trivial rfl rfl rfl rfl rfl ?_
     refine Pl.aI (v:=.int .i64 ((i:Int)-1)) trivial rfl rfl rfl rfl rfl rfl (fun X=>j6 (by omega) (by omega) (by omega) X) ?_
     refine Pl.aj trivial rfl rfl rfl rfl rfl ?_
     refine Pl.ak ?_
     have hz3:z*(a^at'%m)%m=a^(e/2^(4*i))%m:=by rw [hat,Nat.add_zero,Nat.sub_zero];rw [Nat.sub_zero] at hze;exact al7 hze
     exact Pl.iY [(0,va),(1,.slice Ae (limbs e).length ce),(11,.func (.func 62) #[] #[.pointer (some ⟨N,0,none⟩)]),(12,.pointer (some ⟨Np,0,none⟩)),(9,z2),(14,.int .i64 ((i:Int)-1))] (Pl.aa rfl (Pl.aa rfl (Pl.aa rfl (Pl.aa rfl (Pl.aa rfl (Pl.aa rfl Pl.aK)))))) (Nat.lt_succ_self i) ⟨i,_,z2,rfl,by omega,hz3,hz2,hP.kp (Kp.ext hB2),Cb.ext kp hB2,Cb.ext kN hB2,hE.below hB2,rfl⟩
   · obtain ⟨s,rfl⟩:∃ s,t=s+1:=⟨t-1,by omega⟩
     repeat refine Pl.az ?_
     refine Pl.ay (by kernel_rfl) ?_
     refine Pl.ah trivial rfl rfl rfl rfl rfl ?_
     refine Pl.aI (v:=.bool true) trivial rfl rfl rfl rfl rfl rfl (fun X=>rV (decide_eq_true (by omega)) X) ?_
     refine Pl.ak ?_
     repeat refine Pl.az ?_
     refine Pl.dh rfl ?_
     repeat refine Pl.az ?_
     refine Pl.bN ?_
     repeat refine Pl.az ?_
     refine Pl.cK ?_
     repeat refine Pl.az ?_
     refine Pl.ay (by kernel_rfl) ?_
     refine Pl.ah trivial rfl rfl rfl rfl rfl ?_
     refine Pl.ah trivial rfl rfl rfl rfl rfl ?_
     refine Pl.ah trivial rfl rfl rfl rfl rfl ?_
     refine Pl.iB rfl rfl rfl rfl rfl rfl (fun u X=>Pl.enters Tryz.func62 (by kernel_rfl) rfl u X) ?_
     refine Calls.mono (vW _ _ _ _ N _ z z m hz hz kN (Un.below hm hE) hzs hzs hlm h0) ?_
     rintro e X2 ⟨z2,rfl,hz2,hB2⟩
     refine ⟨_,rfl,trivial,?_⟩
     refine Pl.aj trivial rfl rfl rfl rfl rfl ?_
     refine Pl.ak ?_
     have hik:i+1≤801:=by omega
     obtain ⟨bt,hbt⟩:∃ bt,e/2^(4*i+s)%2=bt:=⟨_,rfl⟩
     have aFI:bt<2:=by rw [← hbt];exact Nat.mod_lt _ (by decide)
     repeat refine Pl.az ?_
     refine Pl.ay (by kernel_rfl) ?_
     refine Pl.ah trivial rfl rfl rfl rfl rfl ?_
     refine Pl.aI (v:=.int .i64 ((2*at':Nat):Int)) trivial rfl rfl rfl rfl rfl rfl (fun X=>akb (by omega) (by omega) (by omega) X) ?_
     refine Pl.ah trivial rfl rfl rfl rfl rfl ?_
     refine Pl.ah trivial rfl rfl rfl rfl rfl ?_
     refine Pl.aI (v:=.int .i64 ((4*i:Nat):Int)) trivial rfl rfl rfl rfl rfl rfl (fun X=>akb (by omega) (by omega) (by omega) X) ?_
     refine Pl.ah trivial rfl rfl rfl rfl rfl ?_
     refine Pl.aI (v:=.int .i64 ((4*i+s:Nat):Int)) trivial rfl rfl rfl rfl rfl rfl (fun X=>mM (by omega) (by omega) (by omega) X) ?_
     refine Pl.aA rfl rfl rfl rfl rfl (fun u X=>Pl.enters Tryz.func65 (by kernel_rfl) rfl u X) ?_
     refine Calls.mono (asb _ _ e _ (Un.below he (hE.below hB2)) (by omega) (by omega) (bt:Int) (by rw [mX,hbt])) ?_
     rintro e X3 ⟨rfl,hB3⟩
     refine ⟨_,rfl,trivial,?_⟩
     refine mI (v:=.int .i64 (bt:Int)) trivial rfl rfl rfl rfl rfl (fun X=>al6 (by omega) X) ?_
     refine Pl.aI (v:=.int .i64 ((2*at'+bt:Nat):Int)) trivial rfl rfl rfl rfl rfl rfl (fun X=>mM (by omega) (by omega) (by omega) X) ?_
     refine Pl.aj trivial rfl rfl rfl rfl rfl ?_
     refine Pl.ak ?_
     refine Pl.bZ ?_
     repeat refine Pl.az ?_
     refine Pl.ay (by kernel_rfl) ?_
     refine Pl.ah trivial rfl rfl rfl rfl rfl ?_
     refine Pl.aI (v:=.int .i64 ((s:Int)-1)) trivial rfl rfl rfl rfl rfl rfl (fun X=>j6 (by omega) (by omega) (by omega) X) ?_
     refine Pl.aj trivial rfl rfl rfl rfl rfl ?_
     refine Pl.ak ?_
     have jC:=hB2.below hB3
     have e4:4-s=(4-(s+1))+1:=by omega
     have hz3:z*z%m=a^(e/2^(4*(i+1))*2^(4-s))%m:=by rw [e4];exact ar9 hze
     have ha3:2*at'+bt=e/2^(4*i+s)%2^(4-s):=by rw [e4,← hbt];exact ar' hat
     exact Pl.iY [(0,va),(1,.slice Ae (limbs e).length ce),(11,.func (.func 62) #[] #[.pointer (some ⟨N,0,none⟩)]),(12,.pointer (some ⟨Np,0,none⟩)),(14,.int .i64 (((i+1:Nat):Int)-1)),(9,z2),(15,.int .i64 ((2*at'+bt:Nat):Int)),(16,.int .i64 ((s:Int)-1))] (Pl.aa rfl (Pl.aa rfl (Pl.aa rfl (Pl.aa rfl (Pl.aa rfl (Pl.aa rfl (Pl.aa rfl (Pl.aa rfl Pl.aK)))))))) (Nat.lt_succ_self s) ⟨s,_,_,z2,rfl,by omega,hz3,ha3,Un.below hz2 hB3,hP.kp (Kp.ext jC),Cb.ext kp jC,Cb.ext kN jC,hE.below jC,rfl⟩
end Go.Proofs.YtnilonnkcbkdmaaGreatDoor
