/- The document's own Add. -/
import Derived.Test.YtfhcmggpojhegaaGreatDoorBan
import Derived.Test.YtfhcmggpojhegaaGreatDoorBak
import Derived.Test.YtfhcmggpojhegaaGreatDoorBaq
import Derived.Test.YtfhcmggpojhegaaGreatDoorBaf

namespace Go.Proofs.YtfhcmggpojhegaaGreatDoor
open Go.RowKit
set_option linter.unusedVariables false
set_option maxHeartbeats 400000
attribute [local go_sem ↓] fU
attribute [local go_sem] bY
def pv (xs:List Nat) (k:Nat):Nat:=val ((List.range k).map fun j=>lb xs j)
theorem BS (xs:List Nat) (k:Nat):pv xs (k+1)=pv xs k+lb xs k*4294967296^k:=by
 unfold pv
 rw [List.range_succ,List.map_append,val_append]
 simp only [List.map_cons,List.map_nil,val,Nat.mul_zero,Nat.add_zero,List.length_map,List.length_range]
 rw [Nat.mul_comm]
theorem IK (xs:List Nat) (L:Nat) (h:xs.length≤L):pv xs L=val xs:=qd xs L h
theorem acj (xs:List Nat) (k:Nat) (h:∀ x∈xs,x<4294967296):pv xs k<4294967296^k:=by
 have:=qa ((List.range k).map fun j=>lb xs j) (by intro x hx;obtain ⟨j,_,rfl⟩:=List.mem_map.1 hx;exact eU h j)
 simpa [pv] using this
theorem vR (o:List Nat) (x:Nat):val (o++[x])=val o+x*4294967296^o.length:=by
 rw [val_append];simp only [val,Nat.mul_zero,Nat.add_zero];rw [Nat.mul_comm]
structure ack (xs ys:List Nat) (k:Nat) (o:List Nat) (c:Nat):Prop where
 len:o.length=k
 lt:∀ x∈o,x<4294967296
 carry:c≤1
 val_eq:val o+c*4294967296^k=pv xs k+pv ys k
theorem ack.step {xs ys:List Nat} {k:Nat} {o:List Nat} {c:Nat} (h:ack xs ys k o c) (hx:∀ x∈xs,x<4294967296) (hy:∀ x∈ys,x<4294967296) :
  ack xs ys (k+1) (o++[(lb xs k+lb ys k+c)%4294967296]) ((lb xs k+lb ys k+c)/4294967296):=by
 have h1:=eU hx k
 have h2:=eU hy k
 have h3:=h.carry
 refine ⟨by simp [h.len],qZ h.lt (Nat.mod_lt _ (by decide)),by omega,?_⟩
 rw [vR,BS,BS,h.len,Nat.pow_succ]
 have e:=h.val_eq
 generalize 4294967296^k=B at *
 generalize lb xs k=p at *
 generalize lb ys k=q at *
 have e4:(p+q+c)*B=(p+q+c)%4294967296*B+(p+q+c)/4294967296*4294967296*B:=by
  conv=>lhs;rw [show p+q+c=(p+q+c)%4294967296+(p+q+c)/4294967296*4294967296 by omega]
  rw [Nat.add_mul]
 rw [Nat.add_mul,Nat.add_mul] at e4
 have e5:(p+q+c)/4294967296*(B*4294967296)=(p+q+c)/4294967296*4294967296*B:=by
  rw [Nat.mul_comm B 4294967296,← Nat.mul_assoc]
 rw [e5]
 omega
theorem ack.done {xs ys:List Nat} {k:Nat} {o:List Nat} {c:Nat} (h:ack xs ys (k+1) o c) (hx:∀ x∈xs,x<4294967296) (hy:∀ x∈ys,x<4294967296) (h1:xs.length≤k) (h2:ys.length≤k) :
  val o=val xs+val ys:=by
 have e:=h.val_eq
 have a1:=acj xs k hx
 have a2:=acj ys k hy
 rw [IK xs _ (by omega)] at e a1
 rw [IK ys _ (by omega)] at e a2
 have h3:=h.carry
 rw [Nat.pow_succ] at e
 have hB:0<4294967296^k:=Nat.pow_pos (by decide)
 generalize 4294967296^k=B at *
 have:c=0∨c=1:=by omega
 rcases this with rfl | rfl<;>omega
end Go.Proofs.YtfhcmggpojhegaaGreatDoor
/- The document's own Sub. -/
namespace Go.Proofs.YtfhcmggpojhegaaGreatDoor
open Go.RowKit
set_option linter.unusedVariables false
set_option maxHeartbeats 400000
attribute [local go_sem ↓] fU
attribute [local go_sem] bY
structure acm (xs ys:List Nat) (k:Nat) (o:List Nat) (c:Nat):Prop where
 len:o.length=k
 lt:∀ x∈o,x<4294967296
 carry:c≤1
 val_eq:val o+pv ys k=pv xs k+c*4294967296^k
theorem acm.step {xs ys:List Nat} {k:Nat} {o:List Nat} {c:Nat} (h:acm xs ys k o c) (hx:∀ x∈xs,x<4294967296) (hy:∀ x∈ys,x<4294967296) :
  acm xs ys (k+1) (o++[(4294967296+lb xs k-lb ys k-c)%4294967296]) (1-(4294967296+lb xs k-lb ys k-c)/4294967296):=by
 have h1:=eU hx k
 have h2:=eU hy k
 have h3:=h.carry
 refine ⟨by simp [h.len],qZ h.lt (Nat.mod_lt _ (by decide)),by omega,?_⟩
 rw [vR,BS,BS,h.len,Nat.pow_succ]
 have e:=h.val_eq
 generalize 4294967296^k=B at *
 generalize lb xs k=p at *
 generalize lb ys k=q at *
 obtain ⟨d,hd⟩:∃ d,(4294967296+p-q-c)%4294967296=d:=⟨_,rfl⟩
 obtain ⟨f,hf⟩:∃ f,1-(4294967296+p-q-c)/4294967296=f:=⟨_,rfl⟩
 have e3:d+q+c=p+f*4294967296:=by omega
 rw [hd,hf]
 have e4:(d+q+c)*B=(p+f*4294967296)*B:=by rw [e3]
 rw [Nat.add_mul,Nat.add_mul,Nat.add_mul] at e4
 have e5:f*(B*4294967296)=f*4294967296*B:=by
  rw [Nat.mul_comm B 4294967296,← Nat.mul_assoc]
 rw [e5]
 omega
theorem acm.done {xs ys:List Nat} {o:List Nat} {c:Nat} (h:acm xs ys xs.length o c) (hl:ys.length≤xs.length) (hge:val ys≤val xs):val o=val xs-val ys:=by
 have e:=h.val_eq
 rw [IK xs _ (Nat.le_refl _),IK ys _ hl] at e
 have hlt:=qa o h.lt
 rw [h.len] at hlt
 have hc:=h.carry
 generalize 4294967296^xs.length=B at *
 have:c=0∨c=1:=by omega
 rcases this with rfl | rfl<;>omega
end Go.Proofs.YtfhcmggpojhegaaGreatDoor
/- The document's own Shl. -/
namespace Go.Proofs.YtfhcmggpojhegaaGreatDoor
open Go.RowKit
set_option linter.unusedVariables false
set_option maxHeartbeats 400000
attribute [local go_sem ↓] fU
attribute [local go_sem] bY
structure acn (xs:List Nat) (q P k:Nat) (o:List Nat) (c:Nat):Prop where
 len:o.length=q+k
 lt:∀ x∈o,x<4294967296
 carry:c<P
 val_eq:val o+c*4294967296^(q+k)=pv xs k*P*4294967296^q
theorem acn.step {xs:List Nat} {q P k:Nat} {o:List Nat} {c:Nat} (h:acn xs q P k o c) (hx:∀ x∈xs,x<4294967296) :
  acn xs q P (k+1) (o++[(lb xs k*P+c)%4294967296]) ((lb xs k*P+c)/4294967296):=by
 have h1:=eU hx k
 have h3:=h.carry
 have h4:lb xs k*P+c<4294967296*P:=by
  have:=Nat.mul_le_mul_right P (show lb xs k+1≤4294967296 by omega)
  rw [Nat.add_mul] at this;omega
 refine ⟨by simp [h.len];omega,qZ h.lt (Nat.mod_lt _ (by decide)),by rw [Nat.div_lt_iff_lt_mul (by decide),Nat.mul_comm P];exact h4,?_⟩
 rw [vR,BS,h.len,← Nat.add_assoc,Nat.pow_succ,Nat.pow_add 4294967296 q k]
 have e:=h.val_eq
 rw [Nat.pow_add] at e
 generalize 4294967296^k=B at *
 generalize 4294967296^q=C at *
 obtain ⟨X,hX⟩:∃ X,lb xs k*P+c=X:=⟨_,rfl⟩
 have e3:X=X%4294967296+X/4294967296*4294967296:=by omega
 have e4:X*(C*B)=X%4294967296*(C*B)+X/4294967296*(C*B*4294967296):=by
  conv=>lhs;rw [e3]
  rw [Nat.add_mul,Nat.mul_assoc (X/4294967296),Nat.mul_comm 4294967296]
 have e5:X*(C*B)=lb xs k*P*(C*B)+c*(C*B):=by rw [← hX,Nat.add_mul]
 have e6:lb xs k*P*(C*B)=lb xs k*B*P*C:=by
  rw [Nat.mul_comm C B,← Nat.mul_assoc,Nat.mul_right_comm (lb xs k) P B]
 rw [hX,Nat.add_mul,Nat.add_mul]
 omega
theorem acn.done {xs:List Nat} {q P k:Nat} {o:List Nat} {c:Nat} (h:acn xs q P (k+1) o c) (hx:∀ x∈xs,x<4294967296) (h1:xs.length≤k) (hP:P<4294967296) :
  val o=val xs*P*4294967296^q:=by
 have e:=h.val_eq
 have a1:=acj xs k hx
 rw [IK xs _ (by omega)] at e a1
 have hc:c=0:=by
  rcases Nat.eq_zero_or_pos c with h0 | h0
  · exact h0
  · exfalso
    have b1:4294967296^(q+(k+1))≤c*4294967296^(q+(k+1)):=Nat.le_mul_of_pos_left _ h0
    have b2:val xs*P<4294967296^(k+1):=by
     rw [Nat.pow_succ]
     exact Nat.mul_lt_mul'' a1 hP
    have b3:val xs*P*4294967296^q<4294967296^(k+1)*4294967296^q:=Nat.mul_lt_mul_of_pos_right b2 (Nat.pow_pos (by decide))
    rw [← Nat.pow_add,Nat.add_comm (k+1) q] at b3
    omega
 subst hc
 omega
end Go.Proofs.YtfhcmggpojhegaaGreatDoor
/- The document's calls in the laws of division, and live questions, whose answers are fixed. -/
namespace Go.Proofs.YtfhcmggpojhegaaGreatDoor
open Go.RowKit
set_option linter.unusedVariables false
set_option maxHeartbeats 400000
theorem mK (w:World) (v u:Value) (n m:Nat) (h:Un w v n) (g:Un w u m) (b:Bool) (hb:decide (n=m)=b) :
  Calls Tryz.prog 15 #[v,u] w fun e w'=>e = .returned (.bool b)∧Ext w w':=by
 refine agM w v u _ _ h g b ?_
 rw [← hb]
 refine decide_eq_decide.2 ⟨fun e=>?_,fun e=>by rw [e]⟩
 have:=congrArg val e
 rwa [aO,aO] at this
end Go.Proofs.YtfhcmggpojhegaaGreatDoor
/- Powers of small numbers: no row of the number theoretic transform is read. -/
namespace Go.Proofs.YtfhcmggpojhegaaGreatDoor
open Go.RowKit
set_option linter.unusedVariables false
set_option maxHeartbeats 400000
theorem Qz {a q e n:Nat} (ha:a<LB^q) (he:e≤n):(limbs (a^e)).length≤q*n+1:=by
 refine jO ?_
 have h1:a^e≤(LB^q)^e:=Nat.pow_le_pow_left (Nat.le_of_lt ha) e
 rw [← Nat.pow_mul] at h1
 have h2:LB^(q*e)≤LB^(q*n):=Nat.pow_le_pow_right (by decide) (Nat.mul_le_mul_left _ he)
 have h3:LB^(q*n+1)=LB^(q*n)*LB:=Nat.pow_succ _ _
 have h4:0<LB^(q*n):=Nat.pow_pos (by decide)
 rw [h3]
 unfold LB at *
 omega
theorem VM (v:Nat) (h:v<9223372036854775808):bits .and .i64 (v:Int) 1=((v%2:Nat):Int):=by
 have e1:(BitVec.ofInt 64 1).toNat=2^1-1:=by decide
 have key:(BitVec.ofInt 64 (v:Int)&&&BitVec.ofInt 64 1).toNat=v%2:=by
  rw [BitVec.toNat_and,e1,Nat.and_two_pow_sub_one_eq_mod,BitVec.toNat_ofInt];omega
 show IntKind.i64.wrap ((BitVec.ofInt 64 (v:Int)&&&BitVec.ofInt 64 1).toNat:Nat)=_
 rw [key,IntKind.wrap_i64]
 omega
theorem AO (x:Nat) (h0:x≠0) (h:x<4294967296):limbs x=[x]:=by
 rw [fH h0,Nat.mod_eq_of_lt h,Nat.div_eq_of_lt h,bf]
theorem YX (w:World) (x:Nat) (h0:x≠0) (h:x<4294967296):Un (w.alloc (.cells #[.int .u32 (x:Nat)] 27)) (.slice (some ⟨w.heap.size,0,none⟩) 1 1) x:=by
 have:=Fh w [x] (by simpa using h) (by simp)
 rw [Un,AO x h0 h]
 exact this
theorem VN (a n i:Nat):a^(n/2^i)=a^(n/2^(i+1))*a^(n/2^(i+1))*(if n/2^i%2=1 then a else 1):=by
 have e:n/2^(i+1)=n/2^i/2:=by rw [Nat.pow_succ,Nat.div_div_eq_div_mul]
 rw [e,← Nat.pow_add]
 split
 · rw [← Nat.pow_succ];congr 1;omega
 · rw [Nat.mul_one];congr 1;omega
set_option maxRecDepth 100000 in
set_option maxHeartbeats 4000000 in
theorem asg (w:World) (va:Value) (a q n:Nat) (hu:Un w va a) (ha:a<LB^q) (hq:q*n≤380) (hq2:q≤390) (hn:n≤1000) (k:Nat) (hk:a^n=k) :
  Calls Tryz.prog 24 #[va,.int .i64 (n:Nat)] w fun e w'=>∃ u,e = .returned u∧Un w' u k∧Ext w w':=by
 subst hk
 have hal:(limbs a).length≤398:=Nat.le_trans (jO ha) (by omega)
 have HAL:Hid (∀ x,x=a→(limbs x).length≤398):=fun x e=>by rw [e];exact hal
 have hPl:=Lib.hid (fun e (he:e≤n)=>Nat.le_trans (Qz (e:=e) ha he) (show q*n+1≤398 by omega))
 have hHF:=Lib.hid (VN a n)
 have hlen:=Lib.hid (fun W=>Cx W n (by omega))
 have hbl:n<2^aU n:=dW n
 have asj:aU n≤20:=aT (Nat.lt_of_le_of_lt hn (by decide))
 obtain ⟨L,hL⟩:∃ L,aU n=L:=⟨_,rfl⟩
 rw [hL] at hlen hbl asj
 have hz0:Hid (n/2^L=0):=Nat.div_eq_of_lt hbl
 obtain ⟨A,ca,rfl,hca⟩:=U.shape (U.dK hu)
 have awD:(if (n:Int)<0 then (0:Int) else (n:Int))=(n:Int):=by split<;>omega
 have awE:max (n:Int) 0=(n:Int):=by omega
 have awF:(if (0:Int)<(n:Int) then (n:Int) else 0)=(n:Int):=by split<;>omega
 have awG:(if 0<n then (n:Int) else 0)=(n:Int):=by split<;>omega
 have hnw:IntKind.u64.wrap (n:Int)=(n:Int):=by rw [IntKind.wrap_u64];omega
 have hnm:(n:Int)%18446744073709551616=(n:Int):=by omega
 have hE0:=(Ext.refl w).alloc (.cells #[.int .u32 1] 27)
 have hone:Un (w.alloc (.cells #[.int .u32 1] 27)) (.slice (some ⟨w.heap.size,0,none⟩) 1 1) 1:=by
  have:=Fh w [1] (by simp) (by simp)
  rw [Un,AO 1 (by decide) (by decide)]
  exact this
 clear hL hbl ha
 go_enter Tryz.func24,Tryz.ntmps24
 go_wp2_with (fail)
 refine (hlen.out _).mono ?_
 rintro e w1 ⟨rfl,rfl⟩
 generalize (w.alloc (.cells #[.int .u32 1] 27))=w1 at *
 have hu1:Un w1 (.slice A (limbs a).length ca) a:=U.below (U.dK hu) hE0
 generalize (limbs a).length=la at *
 clear hu
 go_wp2
 go_loopw [6,5] (fun t s wr=>∃ (j:Nat),j≤L∧t = .int .i64 ((j:Int)-1)∧Un wr s (a^(n/2^j))∧Un wr (.slice A la ca) a∧Ext w wr) (fun t _ _=>((intOf t)+1).toNat)
 case atStart=>exact ⟨L,Nat.le_refl _,rfl,by rw [hz0.out,Nat.pow_zero];exact hone,hu1,hE0⟩
 case round =>
  clear hone hu1 hE0
  obtain ⟨j,hj,rfl,hz,AP,hE⟩:=hrel
  rcases j with _ | i
  · have hd:decide ((0:Int)≤((0:Nat):Int)-1)=false:=by decide
    obtain ⟨A2,c2,rfl,hcc⟩:=U.shape (U.dK hz)
    have HF:Hid (∃ u',Ending.returned (.slice A2 (limbs (a^(n/2^0))).length c2) = .returned u'∧Un wr u' (a^n)∧Ext w wr):=⟨_,rfl,by rw [Nat.pow_zero,Nat.div_one] at hz ⊢;exact hz,hE⟩
    clear hz hE
    go_wp2
    go_ret
    exact HF.out
  · have hi1:((i+1:Nat):Int)-1=(i:Int):=by omega
    rw [hi1]
    obtain ⟨A2,c2,rfl,hcc⟩:=U.shape (U.dK hz)
    have hle:n/2^(i+1)≤n:=Nat.div_le_self _ _
    have hle2:n/2^i≤n:=Nat.div_le_self _ _
    obtain ⟨v,hv⟩:∃ v,n/2^i=v:=⟨_,rfl⟩
    obtain ⟨p,hp⟩:∃ p,n/2^(i+1)=p:=⟨_,rfl⟩
    have hhf:=hHF.out i
    rw [hv,hp] at hhf
    rw [hp] at hz hle ⊢
    rw [hv] at hle2
    have hvi:(n:Int)/2^i=(v:Int):=by rw [← hv,Int.natCast_ediv,Int.natCast_pow];rfl
    have hand:=VM v (by omega)
    have hpp:(limbs (a^p*a^p)).length≤398:=by
     rw [← Nat.pow_add]
     refine hPl.out _ ?_
     have:n/2^(i+1)=n/2^i/2:=by rw [Nat.pow_succ,Nat.div_div_eq_div_mul]
     rw [hp,hv] at this
     omega
    have hM:=Lib.hid (mulN wr _ _ (a^p) (a^p) _ hz hz (hPl.out p hle) (hPl.out p hle) rfl)
    have HV:=Lib.hid hv
    generalize (limbs (a^p)).length=lz at *
    clear hz hp hv
    by_cases hb:v%2=1
    · rw [hb] at hand
      rw [if_pos hb] at hhf
      have YY:=Lib.hid hhf
      have hbe:(bits .and .i64 (v:Int) 1==1)=true:=by rw [hand];rfl
      clear hb hhf hand
      go_wp2_with (fail)
      refine hM.out.mono ?_
      rintro e w2 ⟨u,rfl,hu2,hB⟩
      replace AP:=U.below (U.dK AP) hB
      replace hE:=hE.below hB
      obtain ⟨A3,c3,rfl,hc3⟩:=U.shape (U.dK hu2)
      have hM2:=Lib.hid (mulN w2 _ _ (a^p*a^p) a _ hu2 AP hpp (HAL.out a rfl) rfl)
      clear hM hB hu2
      generalize (limbs (a^p*a^p)).length=lz2 at *
      go_wp2_with (fail)
      refine hM2.out.mono ?_
      rintro e w3 ⟨u,rfl,hu3,hB⟩
      replace AP:=U.below AP hB
      replace hE:=hE.below hB
      rw [← YY.out] at hu3
      obtain ⟨A4,c4,rfl,hc4⟩:=U.shape (U.dK hu3)
      have HU:Hid (Un w3 (.slice A4 (limbs (a^v)).length c4) (a^(n/2^i))):=by rw [Hid,HV.out];exact hu3
      generalize (limbs (a^v)).length=lz4 at *
      clear hM2 hB hu3 YY
      go_wp2
      go_roundw
      case rel=>exact ⟨i,by omega,rfl,HU.out,AP,hE⟩
      case measure=>simp [intOf]
    · have hb0:v%2=0:=by omega
      rw [hb0] at hand
      rw [if_neg hb,Nat.mul_one] at hhf
      have YY:=Lib.hid hhf
      have hbe:(bits .and .i64 (v:Int) 1==1)=false:=by rw [hand];rfl
      clear hb hb0 hhf hand
      go_wp2_with (fail)
      refine hM.out.mono ?_
      rintro e w2 ⟨u,rfl,hu2,hB⟩
      replace AP:=U.below (U.dK AP) hB
      replace hE:=hE.below hB
      rw [← YY.out] at hu2
      obtain ⟨A3,c3,rfl,hc3⟩:=U.shape (U.dK hu2)
      have HU:Hid (Un w2 (.slice A3 (limbs (a^v)).length c3) (a^(n/2^i))):=by rw [Hid,HV.out];exact hu2
      generalize (limbs (a^v)).length=lz4 at *
      clear hM hB hu2 YY
      go_wp2
      go_roundw
      case rel=>exact ⟨i,by omega,rfl,HU.out,AP,hE⟩
      case measure=>simp [intOf]
end Go.Proofs.YtfhcmggpojhegaaGreatDoor
/- Roots as numbers: steps of Newton, Zimmermann's square root, and of which powers a number is one. -/
namespace Go.Proofs.YtfhcmggpojhegaaGreatDoor
set_option linter.all false
set_option maxRecDepth 100000
set_option maxHeartbeats 8000000
/-! Roots: what is known of them as numbers. -/
namespace Rt
set_option linter.all false
set_option maxRecDepth 100000
set_option maxHeartbeats 8000000
def Kr (a k r:Nat):Prop:=r^k≤a∧a<(r+1)^k
theorem JC {x y k:Nat} (h:x^k<y^k):x<y:=Nat.lt_of_not_le fun hl=>absurd (Nat.pow_le_pow_left hl k) (by omega)
theorem Kr.le {a k r s:Nat} (h:Kr a k r) (hs:s^k≤a):s≤r:=by
 have:=JC (Nat.lt_of_le_of_lt hs h.2);omega
theorem Kr.lt {a k r s:Nat} (h:Kr a k r) (hs:a<s^k):r<s:=JC (Nat.lt_of_le_of_lt h.1 hs)
theorem Kr.uniq {a k r s:Nat} (h:Kr a k r) (g:Kr a k s):r=s:=Nat.le_antisymm (g.le h.1) (h.le g.1)
def krG (a k:Nat):Nat→Nat
 | 0=>0
 | n+1=>if (n+1)^k≤a then n+1 else krG a k n
def kr (a k:Nat):Nat:=krG a k a
theorem Nc {a k:Nat} (hk:k≠0):∀ n,a<(n+1)^k→Kr a k (krG a k n)
 | 0,h=>by
  have:(0:Nat)^k=0:=Nat.zero_pow (by omega)
  exact ⟨by rw [krG,this];omega,by simpa [krG] using h⟩
 | n+1,h=>by
  unfold krG
  split
  · next h1=>exact ⟨h1,h⟩
  · next h1=>exact Nc hk n (by omega)
theorem Nf (a:Nat) {k:Nat} (hk:k≠0):a≤a^k:=by
 obtain ⟨m,rfl⟩:∃ m,k=m+1:=⟨k-1,by omega⟩
 rcases Nat.eq_zero_or_pos a with rfl | h
 · omega
 · rw [Nat.pow_succ];exact Nat.le_mul_of_pos_left a (Nat.pow_pos h)
theorem EM (a:Nat) {k:Nat} (hk:k≠0):Kr a k (kr a k):=Nc hk a (Nat.lt_of_lt_of_le (Nat.lt_succ_self a) (Nf (a+1) hk))
theorem Ty {a k r:Nat} (hk:k≠0) (h1:r^k≤a) (h2:a<(r+1)^k):kr a k=r:=(EM a hk).uniq ⟨h1,h2⟩
theorem afr (a:Nat) {k:Nat} (hk:k≠0):kr a k^k≤a:=(EM a hk).1
theorem alP {a k s:Nat} (hk:k≠0) (h:s^k≤a):s≤kr a k:=(EM a hk).le h
theorem adk {k:Nat} (hk:k≠0):kr 0 k=0:=Ty hk (by rw [Nat.zero_pow (by omega)];omega) (by simp)
theorem KX (a:Nat) {k:Nat} (hk:k≠0):kr a k≤a:=Nat.le_trans (Nf _ hk) (afr a hk)
theorem ag8 {a k:Nat} (hk:k≠0) (h0:a≠0):0<kr a k:=alP hk (by rw [Nat.one_pow];omega)
theorem arR (x r:Nat):2*r*x≤x*x+r*r:=by
 rcases Nat.le_total x r with h | h
 · obtain ⟨d,rfl⟩:=Nat.exists_eq_add_of_le h
   have:2*(x+d)*x+d*d=x*x+(x+d)*(x+d):=by grind
   omega
 · obtain ⟨d,rfl⟩:=Nat.exists_eq_add_of_le h
   have:2*r*(r+d)+d*d=(r+d)*(r+d)+r*r:=by grind
   omega
theorem mean (x r:Nat):∀ m:Nat,(m+1)*r*x^m≤m*x^(m+1)+r^(m+1)
 | 0=>by simp
 | m+1=>by
  have ih:=Nat.mul_le_mul_left r (mean x r m)
  have h2:=Nat.mul_le_mul_left ((m+1)*x^m) (arR x r)
  have e1:r*((m+1)*r*x^m)=(m+1)*x^m*(r*r):=by grind
  have e2:r*(m*x^(m+1)+r^(m+1))=m*r*x^(m+1)+r^(m+1+1):=by grind
  have e3:(m+1)*x^m*(2*r*x)=2*((m+1)*r*x^(m+1)):=by grind
  have e4:(m+1)*x^m*(x*x+r*r)=(m+1)*x^(m+1+1)+(m+1)*x^m*(r*r):=by grind
  have e5:(m+1+1)*r*x^(m+1)+m*r*x^(m+1)=2*((m+1)*r*x^(m+1)):=by grind
  rw [e1,e2] at ih
  rw [e3,e4] at h2
  omega
theorem adl {a r x m:Nat} (hr:r^(m+1)≤a) (hx:0<x):r≤(x*m+a/x^m)/(m+1):=by
 rw [Nat.le_div_iff_mul_le (by omega)]
 rcases Nat.le_total (r*(m+1)) (x*m) with h | h
 · exact Nat.le_trans h (Nat.le_add_right _ _)
 · have h3:r*(m+1)-x*m≤a/x^m:=by
    rw [Nat.le_div_iff_mul_le (Nat.pow_pos hx),Nat.sub_mul]
    have h1:=mean x r m
    have e1:r*(m+1)*x^m=(m+1)*r*x^m:=by grind
    have e2:x*m*x^m=m*x^(m+1):=by grind
    rw [e1,e2]
    omega
   generalize a/x^m=Q at *
   omega
theorem Vt {a x m:Nat} (hx:0<x) (h:x≤(x*m+a/x^m)/(m+1)):x^(m+1)≤a:=by
 rw [Nat.le_div_iff_mul_le (by omega),Nat.mul_add,Nat.mul_one] at h
 have h2:x≤a/x^m:=by omega
 rw [Nat.le_div_iff_mul_le (Nat.pow_pos hx)] at h2
 rw [Nat.pow_succ,Nat.mul_comm]
 exact h2
theorem zim {a k t s r q u:Nat} (ht:a/2^(2*k)=t) (hs:s*s+r=t) (hq:(r*2^k+a/2^k%2^k)/(2*s)=q) (hu:(r*2^k+a/2^k%2^k)%(2*s)=u) (h0:s≠0) :
  (s*2^k+q)*(s*2^k+q)+(u*2^k+a%2^k)=a+q*q∧a<(s*2^k+q+1)*(s*2^k+q+1):=by
 have h2:=Nat.two_pow_pos k
 have hlow:=Nat.mod_lt a h2
 have hmid:=Nat.mod_lt (a/2^k) h2
 have e1:=Nat.div_add_mod a (2^k)
 have e2:=Nat.div_add_mod (a/2^k) (2^k)
 rw [Nat.div_div_eq_div_mul,← Nat.pow_add,← Nat.two_mul,ht] at e2
 generalize a/2^k%2^k=m at *
 generalize a%2^k=l at *
 generalize a/2^k=h at *
 generalize 2^k=B at *
 have e3:=Nat.div_add_mod (r*B+m) (2*s)
 have hul:=Nat.mod_lt (r*B+m) (show 0<2*s by omega)
 rw [hq,hu] at e3
 rw [hu] at hul
 subst hs
 subst e2
 have ea:a=B*(B*(s*s+r)+m)+l:=e1.symm
 have e4:B*(r*B+m)=B*(2*s*q+u):=by rw [e3]
 refine ⟨by grind,?_⟩
 have e5:(s*B+q+1)*(s*B+q+1)=B*(B*(s*s))+B*(2*s*q+2*s)+(q+1)*(q+1):=by grind
 have e6:a=B*(B*(s*s))+B*(2*s*q+u)+l:=by rw [ea];grind
 have h7:B*(2*s*q+u)+B≤B*(2*s*q+2*s):=by rw [← Nat.mul_succ];exact Nat.mul_le_mul_left B (by omega)
 omega
theorem XT {a Q s r:Nat} (h:s*s+r=a+Q) (h2:a<(s+1)*(s+1)) (hl:r<Q):0<s∧(s-1)*(s-1)+(r+(2*(s-1)+1))=a+Q∧a<(s-1+1)*(s-1+1):=by
 have h0:0<s:=by
  rcases Nat.eq_zero_or_pos s with rfl | h0
  · omega
  · exact h0
 obtain ⟨x,rfl⟩:∃ x,s=x+1:=⟨s-1,by omega⟩
 rw [Nat.add_sub_cancel]
 have e:(x+1)*(x+1)=x*x+(2*x+1):=by grind
 exact ⟨h0,by omega,by omega⟩
theorem Tz {a Q s r:Nat} (h:s*s+r=a+Q) (h2:a<(s+1)*(s+1)) (hl:Q≤r):kr a 2=s∧r-Q=a-s*s:=by
 refine ⟨Ty (by decide) (by rw [Nat.pow_two];omega) (by rw [Nat.pow_two];exact h2),by omega⟩
/-! Powers of which a number is one. -/
def Pr (p:Nat):Prop:=1<p∧∀ d,d∣p→d=1∨d=p
end Rt
end Go.Proofs.YtfhcmggpojhegaaGreatDoor
/- Fermat's little theorem; odd roots modulo powers of 2; primes by trial. -/
namespace Go.Proofs.YtfhcmggpojhegaaGreatDoor
set_option linter.all false
set_option maxRecDepth 100000
set_option maxHeartbeats 8000000
/-! Fermat's little theorem; odd roots modulo powers of 2; primes by trial. -/
namespace Rt
set_option linter.all false
set_option maxRecDepth 100000
set_option maxHeartbeats 8000000
def ch:Nat→Nat→Nat
 | _,0=>1
 | 0,_+1=>0
 | n+1,k+1=>ch n k+ch n (k+1)
theorem zX (n:Nat):ch n 0=1:=by cases n<;>rfl
theorem Cn:∀ {n k:Nat},n<k→ch n k=0
 | 0,k+1,_=>rfl
 | n+1,k+1,h=>by rw [ch,Cn (show n<k by omega),Cn (show n<k+1 by omega)]
theorem TA:∀ n,ch n n=1
 | 0=>rfl
 | n+1=>by rw [ch,TA n,Cn (Nat.lt_succ_self n)]
theorem KY:∀ n k,(k+1)*ch (n+1) (k+1)=(n+1)*ch n k
 | 0,0=>rfl
 | 0,k+1=>by rw [Cn (show 0+1<k+1+1 by omega),Cn (show 0<k+1 by omega)];omega
 | n+1,0=>by
  have h1:=KY n 0
  rw [zX] at h1
  rw [zX,ch,zX]
  omega
 | n+1,k+1=>by
  have h1:=KY n k
  have h2:=KY n (k+1)
  rw [ch]
  have e:ch (n+1) (k+1)=ch n k+ch n (k+1):=by rw [ch]
  generalize ch (n+1) (k+1+1)=A at *
  generalize ch (n+1) (k+1)=B at *
  generalize ch n k=C at *
  generalize ch n (k+1)=D at *
  grind
def bsm (f:Nat→Nat):Nat→Nat
 | 0=>0
 | n+1=>bsm f n+f n
def bT (a n N:Nat):Nat:=bsm (fun k=>ch n k*a^k) N
theorem TB (a n:Nat):∀ N,bT a (n+1) (N+1)=bT a n (N+1)+a*bT a n N
 | 0=>by simp [bT,bsm,zX]
 | N+1=>by
  have ih:=TB a n N
  have e1:bT a (n+1) (N+1+1)=bT a (n+1) (N+1)+ch (n+1) (N+1)*a^(N+1):=rfl
  have e2:bT a n (N+1+1)=bT a n (N+1)+ch n (N+1)*a^(N+1):=rfl
  have e3:bT a n (N+1)=bT a n N+ch n N*a^N:=rfl
  rw [e1,ih,e2,ch,Nat.add_mul,show a*bT a n (N+1)=a*bT a n N+ch n N*a^(N+1) by rw [e3];grind]
  omega
theorem afs (a:Nat):∀ n,(a+1)^n=bT a n (n+1)
 | 0=>by simp [bT,bsm,ch]
 | n+1=>by
  have e:bT a n (n+1+1)=bT a n (n+1)+ch n (n+1)*a^(n+1):=rfl
  rw [TB,e,Cn (Nat.lt_succ_self n),Nat.zero_mul,Nat.add_zero,← afs a n,Nat.pow_succ]
  grind
theorem Pr.cop {p a:Nat} (hp:Pr p) (h:a%p≠0):Nat.gcd p a=1:=by
 rcases hp.2 _ (Nat.gcd_dvd_left p a) with e | e
 · exact e
 · exact absurd (Nat.mod_eq_zero_of_dvd (by have:=Nat.gcd_dvd_right p a;rwa [e] at this)) h
theorem Pr.ag9 {p k:Nat} (hp:Pr p) (h0:0<k) (hk:k<p):ch p k%p=0:=by
 obtain ⟨n,rfl⟩:∃ n,p=n+1:=⟨p-1,by omega⟩
 obtain ⟨j,rfl⟩:∃ j,k=j+1:=⟨k-1,by omega⟩
 have h1:(n+1)∣(j+1)*ch (n+1) (j+1):=⟨_,KY n j⟩
 have hc:Nat.Coprime (n+1) (j+1):=hp.cop (by rw [Nat.mod_eq_of_lt hk];omega)
 exact Nat.mod_eq_zero_of_dvd (hc.dvd_of_dvd_mul_left h1)
theorem Pr.XU {p:Nat} (hp:Pr p) (a:Nat):∀ N,N<p→bT a p (N+1)%p=1%p
 | 0,_=>by simp [bT,bsm,zX]
 | N+1,h=>by
  have e:bT a p (N+1+1)=bT a p (N+1)+ch p (N+1)*a^(N+1):=rfl
  rw [e,Nat.add_mod,hp.XU a N (by omega),Nat.mul_mod,hp.ag9 (by omega) h,Nat.zero_mul,Nat.zero_mod,Nat.add_zero,Nat.mod_mod]
theorem Pr.arS {p:Nat} (hp:Pr p) (a:Nat):(a+1)^p%p=(a^p+1)%p:=by
 obtain ⟨n,rfl⟩:∃ n,p=n+1:=⟨p-1,by have:=hp.1;omega⟩
 have e:bT a (n+1) (n+1+1)=bT a (n+1) (n+1)+ch (n+1) (n+1)*a^(n+1):=rfl
 rw [afs,e,TA,Nat.one_mul,Nat.add_mod,hp.XU a n (by omega),← Nat.add_mod,Nat.add_comm]
theorem Pr.XV {p:Nat} (hp:Pr p):∀ a,a^p%p=a%p
 | 0=>by rw [Nat.zero_pow (by have:=hp.1;omega)]
 | a+1=>by rw [hp.arS,Nat.add_mod,hp.XV a,← Nat.add_mod]
theorem P7 {x m:Nat} (h:1≤x) (hd:m∣x-1):x%m=1%m:=by
 obtain ⟨c,e⟩:=hd
 rw [show x=1+m*c by omega,Nat.add_mul_mod_self_left]
theorem P8 {a b m:Nat} (h:a%m=b%m) (hl:b≤a):m∣a-b:=by
 refine ⟨a/m-b/m,?_⟩
 have h1:=Nat.div_add_mod a m
 have h2:=Nat.div_add_mod b m
 rw [Nat.mul_sub]
 omega
theorem Pr.adm {p a:Nat} (hp:Pr p) (h:a%p≠0):a^(p-1)%p=1:=by
 have h1:=hp.1
 have h2:=hp.XV a
 have ha:0<a:=Nat.pos_of_ne_zero fun e=>h (by rw [e,Nat.zero_mod])
 obtain ⟨n,rfl⟩:∃ n,p=n+1:=⟨p-1,by omega⟩
 rw [Nat.add_sub_cancel]
 have h3:(n+1)∣a*(a^n-1):=by
  have e:a*(a^n-1)=a^(n+1)-a:=by rw [Nat.mul_sub,Nat.mul_one,Nat.pow_succ,Nat.mul_comm]
  rw [e]
  exact P8 h2 (Nat.le_self_pow (by omega) a)
 have h4:(n+1)∣a^n-1:=Nat.Coprime.dvd_of_dvd_mul_left (hp.cop h) h3
 have hge:1≤a^n:=Nat.pow_pos ha
 rw [P7 hge h4,Nat.mod_eq_of_lt h1]
theorem Pr.rest {q p a r e:Nat} (hq:Pr q) (he:q=p*e+1) (h:r^p=a) (h0:a%q≠0):(a%q)^e%q=1:=by
 rw [← Nat.pow_mod,← h,← Nat.pow_mul]
 have h1:r%q≠0:=fun h1=>h0 (by
  have hp:p≠0:=fun e0=>by rw [e0,Nat.zero_mul] at he;have:=hq.1;omega
  rw [← h,Nat.pow_mod,h1,Nat.zero_pow (by omega),Nat.zero_mod])
 have:=hq.adm h1
 rwa [he,Nat.add_sub_cancel,← he] at this
/-! Odd numbers modulo powers of 2. -/
end Rt
end Go.Proofs.YtfhcmggpojhegaaGreatDoor
