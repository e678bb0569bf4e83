/- Shifts, limb by limb: plain lists and naturals. -/
import Derived.Test.YtnilonnkcbkdmaaGreatDoorBad
import Derived.Test.YtnilonnkcbkdmaaGreatDoorBac
import Derived.Laws.AppendOwn
import Derived.Laws.OwnMore
import Derived.Laws.BitsAllLaws
import Derived.Laws.Bits64
import Derived.OwnWalk
import Derived.RangeFuncNested
import Derived.RangeFuncBound
import Derived.RangeFuncCalls
import Derived.RangeFuncLeaves
import Derived.RangeFuncBox
import Derived.Shelf.Abstract
import Derived.Shelf.RegionOpen
import Derived.WalkKit
import Derived.OwnWalkIn
import Derived.TacticsInMore
import Derived.LoopNIn
import Derived.LoopIn

namespace Go.Proofs.YtnilonnkcbkdmaaGreatDoor
theorem vS (o:List Nat) (j x:Nat) (h:j<o.length):val (o.set j x)+lb o j*4294967296^j=val o+x*4294967296^j:=by
 induction o generalizing j with
 | nil=>simp at h
 | cons y ys ih =>
  cases j with
  | zero=>simp [val,lb];omega
  | succ j =>
   have:=ih j (by simpa using h)
   have e:lb (y::ys) (j+1)=lb ys j:=by simp [lb]
   rw [e]
   simp only [List.set_cons_succ,val,Nat.pow_succ]
   have h1:lb ys j*(4294967296^j*4294967296)=4294967296*(lb ys j*4294967296^j):=by rw [← Nat.mul_assoc,Nat.mul_comm]
   have h2:x*(4294967296^j*4294967296)=4294967296*(x*4294967296^j):=by rw [← Nat.mul_assoc,Nat.mul_comm]
   rw [h1,h2]
   omega
theorem nI (xs:List Nat) (i:Nat) (h:i<xs.length):val (xs.take (i+1))=val (xs.take i)+lb xs i*4294967296^i:=by
 rw [List.take_succ_eq_append_getElem h,val_append]
 have e:lb xs i=xs[i]:=by simp [lb,h]
 have hl:(xs.take i).length=i:=by simp;omega
 simp only [val,hl,e,Nat.mul_zero,Nat.add_zero]
 rw [Nat.mul_comm]
theorem Es (a b s:Nat) (ha:a<2^s):a|||b*2^s=a+b*2^s:=by
 have:=Nat.two_pow_add_eq_or_of_lt ha b
 rw [Nat.or_comm,Nat.mul_comm,← this,Nat.add_comm]
theorem F3 (x s:Nat) (hs:s≤32):x*2^s%4294967296=x%2^(32-s)*2^s:=by
 have e:4294967296=2^(32-s)*2^s:=by rw [← Nat.pow_add,Nat.sub_add_cancel hs]
 rw [e,Nat.mul_mod_mul_right]
theorem RA (x s:Nat) (hs:s≤32):x/2^(32-s)=x*2^s/4294967296:=by
 have e:4294967296=2^(32-s)*2^s:=by rw [← Nat.pow_add,Nat.sub_add_cancel hs]
 rw [e,Nat.mul_div_mul_right _ _ (Nat.two_pow_pos s)]
structure wL (xs:List Nat) (q s L i:Nat) (o:List Nat):Prop where
 len:o.length=L
 lt:∀ x∈o,x<4294967296
 val_eq:val o=val (xs.take i)*(4294967296^q*2^s)
 low:lb o (q+i)<2^s
 rest:∀ j,q+i<j→lb o j=0
theorem wL.start (xs:List Nat) (q s L:Nat):wL xs q s L 0 (List.replicate L 0) :=
 ⟨by simp,fun x hx=>by rw [List.eq_of_mem_replicate hx];decide,by simp [val,bM],by rw [iR];exact Nat.two_pow_pos s,fun j _=>iR L j⟩
def XQ (o:List Nat) (x q s i:Nat):List Nat:=(o.set (q+i) (lb o (q+i)|||x*2^s%4294967296)).set (q+i+1) (x/2^(32-s))
theorem wL.step {xs:List Nat} {q s L i:Nat} {o:List Nat} (h:wL xs q s L i o) (hs:s<32) (hx:∀ x∈xs,x<4294967296) (hi:i<xs.length) (hL:L=q+xs.length+1) :
  wL xs q s L (i+1) (XQ o (lb xs i) q s i):=by
 have hxi:=aQ hx i
 have ho:lb o (q+i)|||lb xs i*2^s%4294967296=lb o (q+i)+lb xs i*2^s%4294967296:=by
  rw [F3 _ _ (by omega)];exact Es _ _ _ h.low
 have hb:lb o (q+i)+lb xs i*2^s%4294967296<4294967296:=by
  have h1:=F3 (lb xs i) s (by omega)
  have h2:lb xs i%2^(32-s)+1≤2^(32-s):=Nat.mod_lt _ (Nat.two_pow_pos _)
  have h3:=Nat.mul_le_mul_right (2^s) h2
  rw [← Nat.pow_add,Nat.sub_add_cancel (by omega),Nat.add_mul] at h3
  have:=h.low
  rw [h1]
  omega
 have hhi:lb xs i/2^(32-s)=lb xs i*2^s/4294967296:=RA _ _ (by omega)
 have hlow:lb xs i*2^s/4294967296<2^s:=by
  rw [Nat.div_lt_iff_lt_mul (by decide),Nat.mul_comm (2^s)]
  exact Nat.mul_lt_mul_of_pos_right hxi (Nat.two_pow_pos s)
 have axS:2^s≤4294967296:=by
  have:=Nat.pow_le_pow_right (show 0<2 by decide) (show s≤32 by omega)
  simpa using this
 have e1:=vS o (q+i) (lb o (q+i)+lb xs i*2^s%4294967296) (by rw [h.len];omega)
 have e2:=vS (o.set (q+i) (lb o (q+i)+lb xs i*2^s%4294967296)) (q+i+1) (lb xs i*2^s/4294967296) (by simp [h.len];omega)
 rw [dD _ (by omega),h.rest (q+i+1) (by omega),Nat.zero_mul,Nat.add_zero] at e2
 unfold XQ
 rw [ho,hhi]
 refine ⟨by simp [h.len],gm (gm h.lt hb) (by omega),?_,?_,?_⟩
 · rw [e2,nI xs i hi,Nat.add_mul,← h.val_eq]
   have e3:lb xs i*4294967296^i*(4294967296^q*2^s)=(lb xs i*2^s)*4294967296^(q+i):=by
    rw [Nat.pow_add];simp only [Nat.mul_assoc,Nat.mul_left_comm,Nat.mul_comm]
   rw [e3]
   have e4:lb xs i*2^s=lb xs i*2^s%4294967296+lb xs i*2^s/4294967296*4294967296:=by omega
   have e5:lb xs i*2^s/4294967296*4294967296^(q+i+1)=(lb xs i*2^s/4294967296*4294967296)*4294967296^(q+i):=by
    rw [Nat.pow_succ];simp only [Nat.mul_assoc,Nat.mul_left_comm,Nat.mul_comm]
   rw [e5]
   conv=>rhs;rw [e4]
   rw [Nat.add_mul] at e1 ⊢
   omega
 · rw [show q+(i+1)=q+i+1 by omega,qg _ (by simp [h.len];omega)];exact hlow
 · intro j hj
   rw [dD _ (by omega),dD _ (by omega)]
   exact h.rest j (by omega)
theorem pM (q:Nat):4294967296^q=2^(32*q):=by rw [Nat.pow_mul]
theorem wL.done {xs:List Nat} {k L:Nat} {o:List Nat} (h:wL xs (k/32) (k%32) L xs.length o):val o=val xs*2^k:=by
 rw [h.val_eq,List.take_length,pM,← Nat.pow_add,Nat.div_add_mod]
theorem OV (xs:List Nat) (q:Nat) (hx:∀ x∈xs,x<4294967296):val (xs.drop q)=val xs/4294967296^q:=by
 by_cases hq:q≤xs.length
 · have e:val xs=val (xs.take q)+4294967296^q*val (xs.drop q):=by
    have h:=val_append (xs.take q) (xs.drop q)
    rw [List.take_append_drop,List.length_take,Nat.min_eq_left hq] at h
    exact h
   have hlt:=lM (xs.take q) (fun x hx'=>hx x (List.mem_of_mem_take hx'))
   rw [List.length_take,Nat.min_eq_left hq] at hlt
   rw [e,Nat.add_mul_div_left _ _ (Nat.pow_pos (by decide)),Nat.div_eq_of_lt hlt,Nat.zero_add]
 · rw [List.drop_eq_nil_of_le (by omega)]
   have:=lM xs hx
   have h2:4294967296^xs.length≤4294967296^q:=Nat.pow_le_pow_right (by decide) (by omega)
   rw [Nat.div_eq_of_lt (by omega)]
   rfl
structure qP (ys:List Nat) (s L i:Nat) (o:List Nat):Prop where
 len:o.length=L
 lt:∀ x∈o,x<4294967296
 val_eq:val o=val (ys.take i)/2^s
 low:0<i→lb o (i-1)<2^(32-s)
 rest:∀ j,i≤j→lb o j=0
theorem qP.start (ys:List Nat) (s L:Nat):qP ys s L 0 (List.replicate L 0) :=
 ⟨by simp,fun x hx=>by rw [List.eq_of_mem_replicate hx];decide,by simp [val,bM],fun h=>absurd h (by omega),fun j _=>iR L j⟩
def RB (o:List Nat) (x s i:Nat):List Nat:=o.set i (x/2^s)
def XR (o:List Nat) (x s i:Nat):List Nat:=(o.set i (x/2^s)).set (i-1) (lb o (i-1)|||x*2^(32-s)%4294967296)
theorem XT (x s:Nat) (hx:x<4294967296) (hs:s≤32):x/2^s<2^(32-s):=by
 rw [Nat.div_lt_iff_lt_mul (Nat.two_pow_pos s),← Nat.pow_add,Nat.sub_add_cancel hs]
 exact hx
theorem qP.step0 {ys:List Nat} {s L:Nat} {o:List Nat} (h:qP ys s L 0 o) (hs:s<32) (hx:∀ x∈ys,x<4294967296) (hi:0<ys.length) (hL:L=ys.length) :
  qP ys s L 1 (RB o (lb ys 0) s 0):=by
 have hxi:=aQ hx 0
 have hle:lb ys 0/2^s≤lb ys 0:=Nat.div_le_self _ _
 have e1:=vS o 0 (lb ys 0/2^s) (by rw [h.len];omega)
 rw [h.rest 0 (Nat.le_refl _),h.val_eq] at e1
 unfold RB
 refine ⟨by simp [h.len],gm h.lt (by omega),?_,fun _=>?_,fun j hj=>?_⟩
 · have:=nI ys 0 hi
   simp only [List.take_zero,val,Nat.zero_div,Nat.zero_add,Nat.pow_zero,Nat.mul_one] at e1 this
   rw [this];omega
 · rw [qg _ (by rw [h.len];omega)];exact XT _ _ hxi (by omega)
 · rw [dD _ (by omega)];exact h.rest j (by omega)
theorem qP.step {ys:List Nat} {s L i:Nat} {o:List Nat} (h:qP ys s L i o) (h0:0<i) (hs:s<32) (hx:∀ x∈ys,x<4294967296) (hi:i<ys.length) (hL:L=ys.length) :
  qP ys s L (i+1) (XR o (lb ys i) s i):=by
 obtain ⟨i,rfl⟩:∃ j,i=j+1:=⟨i-1,by omega⟩
 have hxi:=aQ hx (i+1)
 have hle:lb ys (i+1)/2^s≤lb ys (i+1):=Nat.div_le_self _ _
 have hlow:=h.low h0
 rw [Nat.add_sub_cancel] at hlow
 have ho:lb o i|||lb ys (i+1)*2^(32-s)%4294967296=lb o i+lb ys (i+1)*2^(32-s)%4294967296:=by
  rw [F3 _ _ (by omega)];exact Es _ _ _ hlow
 have hb:lb o i+lb ys (i+1)*2^(32-s)%4294967296<4294967296:=by
  have h1:=F3 (lb ys (i+1)) (32-s) (by omega)
  have h2:lb ys (i+1)%2^(32-(32-s))+1≤2^(32-(32-s)):=Nat.mod_lt _ (Nat.two_pow_pos _)
  have h3:=Nat.mul_le_mul_right (2^(32-s)) h2
  rw [← Nat.pow_add,Nat.sub_add_cancel (by omega),Nat.add_mul] at h3
  rw [h1]
  omega
 have e1:=vS o (i+1) (lb ys (i+1)/2^s) (by rw [h.len];omega)
 rw [h.rest (i+1) (Nat.le_refl _),Nat.zero_mul,Nat.add_zero] at e1
 have e2:=vS (o.set (i+1) (lb ys (i+1)/2^s)) i (lb o i+lb ys (i+1)*2^(32-s)%4294967296) (by simp [h.len];omega)
 rw [dD _ (by omega)] at e2
 unfold XR
 rw [Nat.add_sub_cancel,ho]
 refine ⟨by simp [h.len],gm (gm h.lt (by omega)) hb,?_,fun _=>?_,fun j hj=>?_⟩
 · have e3:=nI ys (i+1) hi
   have e4:lb ys (i+1)*4294967296^(i+1)=lb ys (i+1)*2^(32-s)*4294967296^i*2^s:=by
    have:(4294967296:Nat)=2^(32-s)*2^s:=by rw [← Nat.pow_add,Nat.sub_add_cancel (by omega)]
    rw [Nat.pow_succ]
    conv=>lhs;rw [show (4294967296:Nat)^i*4294967296=4294967296^i*(2^(32-s)*2^s) by rw [← this]]
    simp only [Nat.mul_assoc,Nat.mul_left_comm,Nat.mul_comm]
   rw [e3,e4,Nat.add_mul_div_right _ _ (Nat.two_pow_pos s),← h.val_eq]
   have e5:lb ys (i+1)/2^s=lb ys (i+1)*2^(32-s)/4294967296:=by
    have:=RA (lb ys (i+1)) (32-s) (by omega)
    rwa [show 32-(32-s)=s by omega] at this
   have e6:lb ys (i+1)/2^s*4294967296^(i+1)=(lb ys (i+1)/2^s*4294967296)*4294967296^i:=by
    rw [Nat.pow_succ];simp only [Nat.mul_assoc,Nat.mul_left_comm,Nat.mul_comm]
   have e7:lb ys (i+1)*2^(32-s)=lb ys (i+1)*2^(32-s)%4294967296+lb ys (i+1)/2^s*4294967296:=by rw [e5];omega
   rw [e6] at e1
   rw [Nat.add_mul] at e2
   have e8:lb ys (i+1)*2^(32-s)*4294967296^i=lb ys (i+1)*2^(32-s)%4294967296*4294967296^i+lb ys (i+1)/2^s*4294967296*4294967296^i:=by
    rw [← Nat.add_mul,← e7]
   omega
 · rw [Nat.add_sub_cancel,dD _ (by omega),qg _ (by rw [h.len];omega)];exact XT _ _ hxi (by omega)
 · rw [dD _ (by omega),dD _ (by omega)];exact h.rest j (by omega)
theorem qP.done {xs:List Nat} {k L i:Nat} {o:List Nat} (hx:∀ x∈xs,x<4294967296) (h:qP (xs.drop (k/32)) (k%32) L i o) (hi:i=(xs.drop (k/32)).length):val o=val xs/2^k:=by
 subst hi
 rw [h.val_eq,List.take_length,OV _ _ hx,pM,Nat.div_div_eq_div_mul,← Nat.pow_add,Nat.div_add_mod]
theorem mZ (n k:Nat):lb (limbs n) (k/32)/2^(k%32)%2=n/2^k%2:=by
 rw [rR,pM]
 have hs:k%32<32:=Nat.mod_lt _ (by decide)
 generalize hm:n/2^(32*(k/32))=m
 have e:(4294967296:Nat)=2^(k%32)*2^(32-k%32):=by rw [← Nat.pow_add,show k%32+(32-k%32)=32 by omega]
 rw [e,Nat.mod_mul_right_div_self,Nat.mod_mod_of_dvd _ ⟨2^(32-k%32-1),by rw [← Nat.pow_succ',show (32-k%32-1).succ=32-k%32 by omega]⟩,← hm,Nat.div_div_eq_div_mul,← Nat.pow_add,Nat.div_add_mod]
theorem rH (n k:Nat) (h:(limbs n).length≤k/32):n/2^k%2=0:=by
 rw [← mZ,kE h,Nat.zero_div]
theorem jY (n:Nat) (h:n≠0):bS n=32*((limbs n).length-1)+bS (lb (limbs n) ((limbs n).length-1)):=by
 have hl:=IA h
 have e:lb (limbs n) ((limbs n).length-1)=n/2^(32*((limbs n).length-1)):=by
  rw [rR,← pM]
  apply Nat.mod_eq_of_lt
  have:=pO n
  have hp:0<(limbs n).length:=by rw [eG h];simp
  rw [Nat.div_lt_iff_lt_mul (Nat.pow_pos (by decide)),← Nat.pow_succ',show ((limbs n).length-1).succ=(limbs n).length by omega]
  exact this
 rw [e]
 apply wH
 rw [← e]
 exact hl
def Gj (n:Nat):Nat:=if n<18446744073709551616 then n else 0
def BQ (n:Nat):Bool:=decide (n<18446744073709551616)
theorem bO {n k:Nat} (h:(limbs n).length≤k):n<4294967296^k :=
 Nat.lt_of_lt_of_le (pO n) (Nat.pow_le_pow_right (by decide) h)
theorem rA {n k:Nat} (h:k<(limbs n).length):4294967296^k≤n:=by
 rcases Nat.lt_or_ge n (4294967296^k) with h1 | h1
 · have:=fM h1;omega
 · exact h1
theorem U9 {n:Nat} (h:(limbs n).length≤2):BQ n=true:=by
 have:=bO h
 exact decide_eq_true (by omega)
theorem Va {n:Nat} (h:(limbs n).length≤2):Gj n=n:=by
 have:=bO h
 exact if_pos (by omega)
theorem Vb {n:Nat} (h:2<(limbs n).length):BQ n=false:=by
 have:=rA h
 exact decide_eq_false (by omega)
theorem Vd {n:Nat} (h:2<(limbs n).length):Gj n=0:=by
 have:=rA h
 exact if_neg (by omega)
theorem ajL {xs:List Nat} (q:Nat) (hx:∀ x∈xs,x<4294967296):∀ x∈xs.drop q,x<4294967296:=fun x h=>hx x (List.mem_of_mem_drop h)
end Go.Proofs.YtnilonnkcbkdmaaGreatDoor
/- Rows of limbs that a call has made itself. -/
namespace Go.Proofs.YtnilonnkcbkdmaaGreatDoor
open Go.RowKit
set_option linter.unusedVariables false
theorem RD (x s:Nat):((x:Nat):Int)*2^s%4294967296=((x*2^s%4294967296:Nat):Int):=by
 rw [Int.natCast_emod,Int.natCast_mul,Int.natCast_pow];rfl
theorem JV (x s:Nat):((x:Nat):Int)/2^s=((x/2^s:Nat):Int):=by
 rw [Int.natCast_ediv,Int.natCast_pow];rfl
theorem E8 (a b:Nat) (ha:a<4294967296) (c:Int) (hc:c=(b:Nat)) (hb:b<4294967296):bits .or .u32 (a:Int) c=((a|||b:Nat):Int):=by
 subst hc;exact u32_or_nat a b ha hb
theorem agQ (xs:List Nat) (k:Nat) (hx:∀ x∈xs,x<4294967296) (hk:k<xs.length) (h2:xs.length≤2) :
  bits .or .u64 ((val (xs.take k):Nat):Int) (IntKind.u64.wrap (IntKind.u64.wrap ((lb xs k:Nat):Int)*2^(32*k)))=((val (xs.take (k+1)):Nat):Int):=by
 have hl:=aQ hx k
 have hv:=lM (xs.take k) (fun x h=>hx x (List.mem_of_mem_take h))
 rw [List.length_take,Nat.min_eq_left (by omega)] at hv
 have e0:IntKind.u64.wrap ((lb xs k:Nat):Int)=((lb xs k:Nat):Int):=by rw [IntKind.wrap_u64];omega
 have hk1:k=0∨k=1:=by omega
 have hb:lb xs k*2^(32*k)<18446744073709551616:=by
  rcases hk1 with rfl | rfl
  · simp only [Nat.mul_zero,Nat.pow_zero];omega
  · simp only [Nat.mul_one,Nat.reducePow];omega
 have e1:IntKind.u64.wrap (((lb xs k:Nat):Int)*2^(32*k))=((lb xs k*2^(32*k):Nat):Int):=by
  have e:((lb xs k:Nat):Int)*2^(32*k)=((lb xs k*2^(32*k):Nat):Int):=by rw [Int.natCast_mul,Int.natCast_pow];rfl
  rw [IntKind.wrap_u64,e]
  omega
 have hv2:val (xs.take k)<18446744073709551616:=by
  rcases hk1 with rfl | rfl
  · simp only [Nat.pow_zero] at hv;omega
  · simp only [Nat.reducePow] at hv;omega
 rw [e0,e1,u64_or_nat _ _ hv2 hb,Es _ _ _ (by rw [← pM];exact hv),nI xs k hk,pM]
end Go.Proofs.YtnilonnkcbkdmaaGreatDoor
/- walks -/
namespace Go.Proofs.YtnilonnkcbkdmaaGreatDoor
open Go.RowKit
set_option linter.unusedVariables false
set_option maxHeartbeats 400000
set_option maxRecDepth 100000
theorem info43 : (Tryz.prog.info? 43).map (fun i=>(i.zero,i.size,i.bytes))=some (some (.int .u32 0),1,4):=by kernel_rfl
theorem aaw (w:World) (v:Value) (n:Nat) (k:Int) (hk0:0≤k) (hk1:k≤1000000000) (h:Un w v n) (hl:(limbs n).length≤1000000000) :
  Calls Tryz.prog 115 #[v,.int .i64 k] w fun e w'=>(∃ u,e = .returned u∧Un w' u (n*2^k.toNat))∧Below w.heap.size w w':=by
 obtain ⟨A,c,rfl,⟨hc,hm⟩,hx,hr⟩:=h
 obtain ⟨k,rfl⟩:=Int.eq_ofNat_of_zero_le hk0
 rcases Nat.eq_zero_or_pos n with h0 | h0
 · obtain rfl:n=0:=h0
   have hz:limbs 0=[]:=bf
   have hu:Un w (.slice none 0 0) (0*2^k):=by rw [Nat.zero_mul,Un,bf];exact U.mE _ _ _
   have HU:=Lib.hid hu
   rw [hz]
   clear hu hz hr hx hm hl hc
   go_enter Tryz.func115,Tryz.ntmps115
   go_wp2
   go_ret
   exact ⟨⟨_,rfl,HU.out⟩,Below.refl _ _⟩
 · have hlen:0<(limbs n).length:=by rw [eG (by omega)];simp
   obtain ⟨ad,rfl,hb,hcell⟩:=hr hlen
   have hne:(((limbs n).length:Int)==0)=false:=by rw [beq_eq_false_iff_ne];omega
   obtain ⟨i0,hi,hz0,hz1,hz2⟩:=info_parts info43
   have hq:Hid (((k:Nat):Int)/32=((k/32:Nat):Int)):=by rw [Hid];omega
   generalize hxs:limbs n=xs at *
   have HX:=Lib.hid hxs
   clear hxs hr
   have hkn:decide (((k:Nat):Int)<0)=false:=by rw [decide_eq_false_iff_not];omega
   go_enter Tryz.func115,Tryz.ntmps115
   go_wp2_with (at_make;refine wpList_make_full _ rfl _ _ 22 rfl w.heap.size 43 i0 (.int .u32 0) 1 Tryz.underlying22 hi hz0 hz1 _ _ _ _ (k/32+xs.length+1) rfl rfl (by omega) (by omega) (by rw [hz2];omega) (by unfold maxLen;omega) (Nat.le_refl _) ?_;intro w1 hown hgrow)
   have ho0:=Own.zeros hown
   have hB0:Below w.heap.size w w1:=(Below.refl _ _).grown hgrow (Nat.le_refl _) (fun _ h=>by cases h)
   clear hown hgrow
   go_loopw [29] (fun m wr=>∃ (i:Nat) (o:List Nat),i≤xs.length∧m = .int .i64 i∧Hid (wL xs (k/32) (k%32) (k/32+xs.length+1) i o)∧Own wr w.heap.size (.slice (some ⟨w.heap.size,0,none⟩) o.length (k/32+xs.length+1)) o∧Below w.heap.size w wr) (fun m _=>xs.length-(intOf m).toNat)
   case atStart=>exact ⟨0,_,Nat.zero_le _,rfl,wL.start _ _ _ _,ho0,hB0⟩
   case round =>
    obtain ⟨i,o,hik,rfl,HO,hown,hB⟩:=hrel
    have hoL:=HO.out.len
    by_cases hlt:i<xs.length
    · have hc1:=(hB.cell (p:=ad.add i) (by rw [aM];exact hb)).trans (hcell i hlt)
      have hc2:=hown.cell (j:=k/32+i) (by omega)
      have hc3:=hown.cell (j:=k/32+i+1) (by omega)
      have hf2:=hown.frozen (k/32+i)
      have hf3:=hown.frozen (k/32+i+1)
      rw [hoL] at hown
      clear hoL
      have HF:Hid (bits .or .u32 (lb o (k/32+i):Int) (((lb xs i:Nat):Int)*2^(k%32)%4294967296)=((lb o (k/32+i)|||lb xs i*2^(k%32)%4294967296:Nat):Int)) :=
       E8 _ _ (aQ HO.out.lt _) _ (RD _ _) (Nat.mod_lt _ (by decide))
      have HG:Hid (((lb xs i:Nat):Int)/2^(32-k%32)=((lb xs i/2^(32-k%32):Nat):Int)):=JV _ _
      go_wp2
      go_region
      go_wp2
      rw [HF.out,HG.out]
      go_roundw
      case rel =>
       have hst:=HO.out.step (Nat.mod_lt _ (by decide)) hx hlt rfl
       refine ⟨i+1,_,by omega,by go_num,hst,?_,((hB.setCell (by simp) _).setCell (by simp) _).drew⟩
       have h1:=(Own.rO (o:=o) (by rw [HO.out.len];exact hown) (k/32+i) (lb o (k/32+i)|||lb xs i*2^(k%32)%4294967296))
       exact (Own.rO h1 (k/32+i+1) (lb xs i/2^(32-k%32))).drew
      case measure=>simp [intOf];omega
    · obtain rfl:i=xs.length:=by omega
      have hu:=hown.lW HO.out.lt (by omega)
      have hv:=HO.out.done
      rw [← HX.out,aG] at hv
      have HV:=Lib.hid hv
      rw [hoL] at hu
      clear hv hoL hlt
      go_wp2_with fail
      refine (nV _ _ _ hu).mono ?_
      rintro e w2 ⟨⟨u,rfl,hu2⟩,rfl⟩
      have hu3:Un wr u (n*2^((k:Int)).toNat):=by rw [Un,Int.toNat_natCast,← HV.out];exact hu2
      clear hu2
      go_wp2
      go_ret
      exact ⟨⟨_,rfl,hu3⟩,hB⟩
end Go.Proofs.YtnilonnkcbkdmaaGreatDoor
/- walks -/
namespace Go.Proofs.YtnilonnkcbkdmaaGreatDoor
open Go.RowKit
set_option linter.unusedVariables false
set_option maxHeartbeats 400000
set_option maxRecDepth 100000
theorem aav (w:World) (v:Value) (n:Nat) (i:Int) (hi0 : -9000000000000≤i) (hi1:i≤9000000000000) (h:Un w v n) :
  Calls Tryz.prog 65 #[v,.int .i64 i] w fun e w'=>e = .returned (.int .u32 (fQ n i:Nat))∧w=w':=by
 obtain ⟨A,c,rfl,⟨hc,hm⟩,hx,hr⟩:=h
 by_cases h0:i<0
 · have HF:Hid (fQ n i=0):=if_pos h0
   go_enter Tryz.func65,Tryz.ntmps65
   go_wp2
   go_ret
   exact ⟨by rw [HF.out];rfl,rfl⟩
 · obtain ⟨k,rfl⟩:=Int.eq_ofNat_of_zero_le (show 0≤i by omega)
   have hkn:decide (((k:Nat):Int)<0)=false:=by rw [decide_eq_false_iff_not];omega
   have HB:Hid (fQ n (k:Int)=n/2^k%2):=by rw [Hid,fQ,if_neg h0,Int.toNat_natCast]
   by_cases h1:k/32<(limbs n).length
   · obtain ⟨ad,rfl,hb,hcell⟩:=hr (by omega)
     have hc1:=hcell (k/32) h1
     have hL:=aQ hx (k/32)
     have hd:lb (limbs n) (k/32)/2^(k%32)<4294967296:=Nat.lt_of_le_of_lt (Nat.div_le_self _ _) hL
     have HF:Hid (bits .and .u32 (((lb (limbs n) (k/32):Nat):Int)/2^(k%32)) 1=((fQ n (k:Int):Nat):Int)):=by
      rw [Hid,JV,HB.out,← mZ n k]
      have:=u32_and_nat (lb (limbs n) (k/32)/2^(k%32)) 1 hd (by decide)
      rw [Nat.and_one_is_mod] at this
      exact this
     clear hd hL HB
     go_enter Tryz.func65,Tryz.ntmps65
     go_wp2
     go_ret
     exact ⟨by rw [← HF.out];rfl,rfl⟩
   · have HF:Hid (fQ n (k:Int)=0):=by rw [Hid,HB.out];exact rH n k (by omega)
     go_enter Tryz.func65,Tryz.ntmps65
     go_wp2
     go_ret
     exact ⟨by rw [HF.out];rfl,rfl⟩
theorem U5 (w:World) (v:Value) (n:Nat) (h:Un w v n) (hl:(limbs n).length≤1000000000) :
  Calls Tryz.prog 64 #[v] w fun e w'=>e = .returned (.int .i64 (bS n:Nat))∧w=w':=by
 obtain ⟨A,c,rfl,⟨hc,hm⟩,hx,hr⟩:=h
 by_cases h0:n=0
 · subst h0
   have hz:limbs 0=[]:=bf
   rw [hz]
   clear hz hr hx hm hl hc
   have HF:Hid (bS 0=0):=rfl
   go_enter Tryz.func64,Tryz.ntmps64
   go_wp2
   go_ret
   exact ⟨by rw [HF.out];rfl,rfl⟩
 · have HF:=Lib.hid (jY n h0)
   have hlen:0<(limbs n).length:=by rw [eG h0];simp
   obtain ⟨ad,rfl,hb,hcell⟩:=hr hlen
   have hc1:=hcell ((limbs n).length-1) (by omega)
   have hne:(((limbs n).length:Int)==0)=false:=by rw [beq_eq_false_iff_ne];omega
   have hL:=aQ hx ((limbs n).length-1)
   have hB:=dB (k:=32) hL
   have HL:=Lib.hid hL
   clear hL
   go_enter Tryz.func64,Tryz.ntmps64
   go_wp2_with (go_at_call 100;refine (ET _ _ HL.out).mono ?_;rintro e w' ⟨rfl,rfl⟩)
   go_ret
   exact ⟨by rw [HF.out];exact mJ (by omega),rfl⟩
theorem aat (w:World) (n:Nat) (hn:n<18446744073709551616) :
  Calls Tryz.prog 54 #[.int .u64 n] w fun e w'=>(∃ u,e = .returned u∧Un w' u n)∧Below w.heap.size w w':=by
 have HN:=Lib.hid hn
 go_enter Tryz.func54,Tryz.ntmps54
 go_wp2_with fail
 have hn':=HN.out
 have hv:val [n%4294967296,n/4294967296]=n:=by simp only [val];omega
 have hu:U (w.alloc (Obj.cells #[Value.int IntKind.u32 ((n:Int)%4294967296),Value.int IntKind.u32 ((n:Int)/4294967296)] 43)) (.slice (some ⟨w.heap.size,0,none⟩) 2 2) [n%4294967296,n/4294967296]:=by
  refine ⟨_,2,rfl,⟨Nat.le_refl _,by simp⟩,by intro x hx;simp at hx;omega,fun _=>⟨_,rfl,by simp,fun j hj=>?_⟩⟩
  have:j=0∨j=1:=by simp at hj;omega
  rcases this with rfl | rfl
  · simp [lb,Addr.add]
  · simp [lb,Addr.add]
 clear hn' hn
 refine (nV _ _ _ hu).mono ?_
 rintro e w2 ⟨⟨u,rfl,hu2⟩,rfl⟩
 rw [hv] at hu2
 clear hv
 go_wp2
 go_ret
 exact ⟨⟨_,rfl,hu2⟩,(Below.refl _ _).alloc (Nat.le_refl _) _⟩
end Go.Proofs.YtnilonnkcbkdmaaGreatDoor
/- walks -/
namespace Go.Proofs.YtnilonnkcbkdmaaGreatDoor
open Go.RowKit
set_option linter.unusedVariables false
set_option maxHeartbeats 400000
set_option maxRecDepth 100000
theorem aau (w:World) (v:Value) (n:Nat) (h:Un w v n) :
  Calls Tryz.prog 53 #[v] w fun e w'=>e = .returned (.tuple #[.int .u64 (Gj n:Nat),.bool (BQ n)])∧w=w':=by
 obtain ⟨A,c,rfl,⟨hc,hm⟩,hx,hr⟩:=h
 by_cases h2:(limbs n).length≤2
 · have hB:BQ n=true:=U9 h2
   have hN:Gj n=n:=Va h2
   have HB:=Lib.hid hB
   have HN:=Lib.hid hN
   clear hB hN
   go_enter Tryz.func53,Tryz.ntmps53
   go_wp2
   go_loop [4,12] (fun s i=>∃ k:Nat,k≤(limbs n).length∧i = .int .i64 k∧s = .int .u64 (val ((limbs n).take k):Nat)) (fun s i=>(limbs n).length-(intOf i).toNat)
   case atStart=>exact ⟨0,Nat.zero_le _,rfl,rfl⟩
   case round =>
    obtain ⟨k,hk,rfl,rfl⟩:=hrel
    by_cases hlt:k<(limbs n).length
    · obtain ⟨ad,rfl,hb,hcell⟩:=hr (by omega)
      have hc1:=hcell k hlt
      go_wp2
      go_round
      case rel=>exact ⟨k+1,by omega,by go_num,by rw [agQ _ k hx hlt h2]⟩
      case measure=>simp [intOf];omega
    · have HV:Hid (Gj n=val ((limbs n).take k)):=by
       rw [Hid,HN.out,show k=(limbs n).length by omega,List.take_length,aG]
      clear HN
      go_wp2
      go_ret2
      exact ⟨by rw [HV.out,HB.out];rfl,rfl⟩
 · have HB:Hid (BQ n=false):=Vb (by omega)
   have HN:Hid (Gj n=0):=Vd (by omega)
   go_enter Tryz.func53,Tryz.ntmps53
   go_wp2
   go_ret2
   exact ⟨by rw [HN.out,HB.out];rfl,rfl⟩
theorem aax (w:World) (v:Value) (n:Nat) (k:Int) (hk0:0≤k) (hk1:k≤1000000000) (h:Un w v n) (hl:(limbs n).length≤1000000000) :
  Calls Tryz.prog 114 #[v,.int .i64 k] w fun e w'=>(∃ u,e = .returned u∧Un w' u (n/2^k.toNat))∧Below w.heap.size w w':=by
 obtain ⟨A,c,rfl,⟨hc,hm⟩,hx,hr⟩:=h
 obtain ⟨k,rfl⟩:=Int.eq_ofNat_of_zero_le hk0
 have hkn:decide (((k:Nat):Int)<0)=false:=by rw [decide_eq_false_iff_not];omega
 by_cases h0:k/32<(limbs n).length
 · obtain ⟨ad,rfl,hb,hcell⟩:=hr (by omega)
   obtain ⟨i0,hi,hz0,hz1,hz2⟩:=info_parts info43
   generalize hxs:limbs n=xs at *
   have HX:=Lib.hid hxs
   have hcap:decide (c=k/32)=false:=by rw [decide_eq_false_iff_not];omega
   clear hxs hr
   go_enter Tryz.func114,Tryz.ntmps114
   go_wp2_with (at_make;refine wpList_make_full _ rfl _ _ 22 rfl w.heap.size 43 i0 (.int .u32 0) 1 Tryz.underlying22 hi hz0 hz1 _ _ _ _ (xs.length-k/32) rfl rfl (by omega) (by omega) (by rw [hz2];omega) (by unfold maxLen;omega) (Nat.le_refl _) ?_;intro w1 hown hgrow)
   have ho0:=Own.zeros hown
   have hB0:Below w.heap.size w w1:=(Below.refl _ _).grown hgrow (Nat.le_refl _) (fun _ h=>by cases h)
   have hys:Hid ((xs.drop (k/32)).length=xs.length-k/32):=by rw [Hid,List.length_drop]
   have hyl:=Lib.hid (ajL (k/32) hx)
   clear hown hgrow
   go_loopw [29] (fun m wr=>∃ (i:Nat) (o:List Nat),i≤xs.length-k/32∧m = .int .i64 i∧Hid (qP (xs.drop (k/32)) (k%32) (xs.length-k/32) i o)∧Own wr w.heap.size (.slice (some ⟨w.heap.size,0,none⟩) o.length (xs.length-k/32)) o∧Below w.heap.size w wr) (fun m _=>xs.length-k/32-(intOf m).toNat)
   case atStart=>exact ⟨0,_,Nat.zero_le _,rfl,qP.start _ _ _,ho0,hB0⟩
   case round =>
    obtain ⟨i,o,hik,rfl,HO,hown,hB⟩:=hrel
    have hoL:=HO.out.len
    by_cases hlt:i<xs.length-k/32
    · have hc1:wr.cell? ((ad.add (k/32)).add i)=some (.int .u32 ((lb (xs.drop (k/32)) i:Nat):Int)):=by
       rw [addr_add_add,FZ]
       exact (hB.cell (p:=ad.add (k/32+i)) (by rw [aM];exact hb)).trans (hcell _ (by omega))
      have hc2:=hown.cell (j:=i) (by omega)
      have hf2:=hown.frozen i
      have hown':=hown
      rw [hoL] at hown
      have HG:Hid (((lb (xs.drop (k/32)) i:Nat):Int)/2^(k%32)=((lb (xs.drop (k/32)) i/2^(k%32):Nat):Int)):=JV _ _
      by_cases hi0:i=0
      · subst hi0
        rw [fJ] at hc1
        clear hoL
        go_wp2
        rw [HG.out]
        go_roundw
        case rel =>
         have hst:=HO.out.step0 (Nat.mod_lt _ (by decide)) hyl.out (by rw [hys.out];omega) hys.out.symm
         exact ⟨1,_,by omega,by go_num,hst,Own.rO hown' 0 _,hB.setCell (by simp) _⟩
        case measure=>simp [intOf];omega
      · have hc3:=hown'.cell (j:=i-1) (by omega)
        have hf3:=hown'.frozen (i-1)
        have HF:Hid (bits .or .u32 (lb o (i-1):Int) (((lb (xs.drop (k/32)) i:Nat):Int)*2^(32-k%32)%4294967296)=((lb o (i-1)|||lb (xs.drop (k/32)) i*2^(32-k%32)%4294967296:Nat):Int)) :=
         E8 _ _ (aQ HO.out.lt _) _ (RD _ _) (Nat.mod_lt _ (by decide))
        clear hoL
        go_wp2
        go_region
        go_wp2
        rw [HF.out,HG.out]
        go_roundw
        case rel =>
         have hst:=HO.out.step (by omega) (Nat.mod_lt _ (by decide)) hyl.out (by rw [hys.out];omega) hys.out.symm
         exact ⟨i+1,_,by omega,by go_num,hst,(Own.rO (Own.rO hown' i _) (i-1) _).drew,((hB.setCell (by simp) _).setCell (by simp) _).drew⟩
        case measure=>simp [intOf];omega
    · have hu:=hown.lW HO.out.lt (by omega)
      have hv:=HO.out.done hx (by rw [hys.out];omega)
      rw [← HX.out,aG] at hv
      have HV:=Lib.hid hv
      rw [hoL] at hu
      clear hv hoL
      go_wp2_with fail
      refine (nV _ _ _ hu).mono ?_
      rintro e w2 ⟨⟨u,rfl,hu2⟩,rfl⟩
      have hu3:Un wr u (n/2^((k:Int)).toNat):=by rw [Un,Int.toNat_natCast,← HV.out];exact hu2
      clear hu2
      go_wp2
      go_ret
      exact ⟨⟨_,rfl,hu3⟩,hB⟩
 · have hu:Un w (.slice none 0 0) (n/2^((k:Int)).toNat):=by
    have:=pO n
    have h2:4294967296^(limbs n).length≤4294967296^(k/32):=Nat.pow_le_pow_right (by decide) (by omega)
    have h3:2^(32*(k/32))≤2^k:=Nat.pow_le_pow_right (by decide) (by omega)
    rw [pM (k/32)] at h2
    rw [Int.toNat_natCast,Nat.div_eq_of_lt (by omega),Un,bf]
    exact U.mE _ _ _
   have HU:=Lib.hid hu
   clear hu
   go_enter Tryz.func114,Tryz.ntmps114
   go_wp2
   go_ret
   exact ⟨⟨_,rfl,HU.out⟩,Below.refl _ _⟩
end Go.Proofs.YtnilonnkcbkdmaaGreatDoor
/- Order of limbs: plain lists and naturals. -/
namespace Go.Proofs.YtnilonnkcbkdmaaGreatDoor
def vO (L k:Nat):List Nat:=(List.range k).map fun j=>L-1-j
theorem BA (L k:Nat):vO L (k+1)=vO L k++[L-1-k]:=by simp [vO,List.range_succ]
theorem Oy (L k:Nat):(vO L k).length=k:=by simp [vO]
theorem Mx {L k j:Nat} (hk:k≤L):j∈vO L k↔L-k≤j∧j<L:=by
 simp only [vO,List.mem_map,List.mem_range]
 constructor
 · rintro ⟨i,hi,rfl⟩;omega
 · intro h;exact ⟨L-1-j,by omega,by omega⟩
theorem iG {xs ys:List Nat} (hl:xs.length=ys.length) (hx:∀ x∈xs,x<4294967296) (hy:∀ x∈ys,x<4294967296) (p:Nat) (hp:p<xs.length)
  (ht:∀ j,p<j→j<xs.length→lb xs j=lb ys j) (hlt:lb xs p<lb ys p):val xs<val ys:=by
 induction xs generalizing ys p with
 | nil=>simp at hp
 | cons x xs ih =>
  cases ys with
  | nil=>simp at hl
  | cons y ys =>
   have e:∀ (a:Nat) (l:List Nat) j,lb (a::l) (j+1)=lb l j:=fun a l j=>by simp [lb]
   have hl':xs.length=ys.length:=by simpa using hl
   have h1:=hx x (List.mem_cons_self ..)
   have h2:=hy y (List.mem_cons_self ..)
   simp only [val]
   cases p with
   | zero =>
    have:xs=ys:=rP hl' fun j hj=>by
     have:=ht (j+1) (by omega) (by simpa using hj)
     rwa [e,e] at this
    subst this
    have h3:lb (x::xs) 0=x:=by simp [lb]
    have h4:lb (y::xs) 0=y:=by simp [lb]
    omega
   | succ p =>
    rw [e,e] at hlt
    have:=ih hl' (fun z hz=>hx z (List.mem_cons_of_mem _ hz)) (fun z hz=>hy z (List.mem_cons_of_mem _ hz)) p (by simpa using hp)
     (fun j h3 h4=>by
      have:=ht (j+1) (by omega) (by simpa using h4)
      rwa [e,e] at this) hlt
    omega
theorem fu {x y:Int} (h:x<y):bQ x y = -1:=if_pos h
theorem fG {x y:Int} (h:y<x):bQ x y=1:=by rw [bQ,if_neg (by omega),if_pos h]
theorem fZ (x:Int):bQ x x=0:=by rw [bQ,if_neg (by omega),if_neg (by omega)]
theorem Df {n m:Nat} (h:(limbs n).length<(limbs m).length):n<m:=by
 have h1:=pO n
 have h2:=rA h
 omega
theorem agM {n m:Nat} (h:(limbs n).length≠(limbs m).length):bQ (limbs n).length (limbs m).length=bQ n m:=by
 rcases Nat.lt_or_gt_of_ne h with h | h
 · have:=Df h
   rw [fu (by omega),fu (by omega)]
 · have:=Df h
   rw [fG (by omega),fG (by omega)]
theorem agN {n m p:Nat} (hl:(limbs n).length=(limbs m).length) (hp:p<(limbs n).length) (ht:∀ j,p<j→j<(limbs n).length→lb (limbs n) j=lb (limbs m) j)
  (hne:lb (limbs n) p≠lb (limbs m) p):bQ (lb (limbs n) p) (lb (limbs m) p)=bQ n m:=by
 rcases Nat.lt_or_gt_of_ne hne with h | h
 · have:=iG hl (mD n) (mD m) p hp ht h
   rw [aG,aG] at this
   rw [fu (by omega),fu (by omega)]
 · have:=iG hl.symm (mD m) (mD n) p (by omega) (fun j h1 h2=>(ht j h1 (by omega)).symm) h
   rw [aG,aG] at this
   rw [fG (by omega),fG (by omega)]
end Go.Proofs.YtnilonnkcbkdmaaGreatDoor
/- slices.Backward over limbs, and nat.Cmp. -/
namespace Go.Proofs.YtnilonnkcbkdmaaGreatDoor
open Go.RowKit Go.Shelf
set_option linter.unusedVariables false
attribute [local go_sem] Oper.semAt_some
abbrev Ix (L:Nat):={ k:Nat // k<L }
abbrev apI (xs:List Nat) (p:Ix xs.length):Array Value:=#[.int .i64 (p.1:Int),.int .u32 ((lb xs p.1:Nat):Int)]
set_option maxRecDepth 100000 in
set_option maxHeartbeats 2000000 in
theorem agO (l Bs:Nat) (ad:Addr) (c:Nat) (xs:List Nat) (hm:xs.length≤9223372036854775807) (n₀:Nat) (hb:ad.block<n₀) (J Jx:List (Ix xs.length)→World→Prop)
  (hY:∀ pre x W,J pre W→pre.length<xs.length→YieldAt Fence.wide 2 Tryz.prog l (apI xs x) W fun e W' =>
   (e = .returned (.bool true)∧J (pre++[x]) W'∧Below n₀ W W')∨(e = .returned (.bool false)∧Jx (pre++[x]) W'))
  (W:World) (hBn:Bs<n₀) (J7:W.cell? ⟨Bs,0,none⟩=some (.slice (some ad) xs.length c)) (hc:∀ j,j<xs.length→W.cell? (ad.add j)=some (.int .u32 ((lb xs j:Nat):Int))) (h0:J [] W) :
  CallsIn Fence.wide 3 Tryz.prog 138 #[.func (.yield l) #[] #[],.pointer (some ⟨Bs,0,none⟩)] W fun e W'=>(∃ v,e = .returned v) ∧
   ((∃ ys,ys.map (·.1)=vO xs.length xs.length∧J ys W')∨(∃ pre,(∃ k,k≤xs.length∧pre.map (·.1)=vO xs.length k)∧Jx pre W')):=by
 refine callsIn_of_wp Tryz.func138 rfl trivial ?_ rfl
 simp only [Tryz.ntmps138,List.size_toArray,List.length_cons,List.length_nil,Nat.reduceAdd,Nat.reduceSub,Array.replicate_succ,Array.replicate_zero,List.push_toArray,List.append_toArray,List.nil_append,List.cons_append]
 gi_wp2
 gi_loopw [3] (fun i wr=>∃ (k:Nat) (pre:List (Ix xs.length)),k≤xs.length∧i = .int .i64 ((xs.length:Int)-1-k)∧Hid (pre.map (·.1)=vO xs.length k)∧J pre wr∧Below n₀ W wr)
  (fun i _=>(intOf i+1).toNat)
 case atStart=>exact ⟨0,[],Nat.zero_le _,by simp,rfl,h0,Below.refl _ _⟩
 case round =>
  obtain ⟨k,pre,hk,rfl,hp,hJs,hnx⟩:=hrel
  by_cases hlt:k<xs.length
  · have hcx:=(hnx.cell (p:=ad.add (xs.length-1-k)) (by rw [aM];exact hb)).trans (hc (xs.length-1-k) (by omega))
    have hcb:=(hnx.cell (p:=⟨Bs,0,none⟩) hBn).trans J7
    obtain ⟨fn,tmps,assign,body,hy,hR⟩:=hY pre ⟨xs.length-1-k,by omega⟩ wr hJs (by have:=congrArg List.length hp.out;simp [vO] at this;omega)
    dsimp only [apI] at hy
    rw [show ((xs.length-1-k:Nat):Int)=(xs.length:Int)-1-k by omega] at hy
    gi_wp2
    refine hR.mono ?_
    rintro e W3 (⟨rfl,hJ3,hk3⟩ | ⟨rfl,hJx3⟩)
    · gi_wp2
      go_roundw
      case rel=>exact ⟨k+1,_,by omega,by congr 1;push_cast;omega,by rw [Hid,List.map_append,hp.out,BA];rfl,hJ3,hnx.trans hk3⟩
      case measure=>simp [intOf];omega
    · gi_wp2
      refine bodyPost_ret (results_none rfl _ _ _) rfl ?_
      exact ⟨⟨_,rfl⟩,.inr ⟨_,⟨k+1,by omega,by rw [List.map_append,hp.out,BA];rfl⟩,hJx3⟩⟩
  · obtain rfl:k=xs.length:=by omega
    gi_wp2
    go_end0
    exact ⟨⟨_,rfl⟩,.inl ⟨_,hp.out,hJs⟩⟩
set_option maxRecDepth 100000 in
set_option maxHeartbeats 1000000 in
theorem Oz (l Bs:Nat) (A:Option Addr) (c:Nat) {α:Type} (J:List α→World→Prop) (W:World) (J7:W.cell? ⟨Bs,0,none⟩=some (.slice A 0 c)) (h0:J [] W) :
  CallsIn Fence.wide 3 Tryz.prog 138 #[.func (.yield l) #[] #[],.pointer (some ⟨Bs,0,none⟩)] W fun e W'=>(∃ v,e = .returned v)∧J [] W':=by
 refine callsIn_of_wp Tryz.func138 rfl trivial ?_ rfl
 simp only [Tryz.ntmps138,List.size_toArray,List.length_cons,List.length_nil,Nat.reduceAdd,Nat.reduceSub,Array.replicate_succ,Array.replicate_zero,List.push_toArray,List.append_toArray,List.nil_append,List.cons_append]
 gi_wp2
 gi_loopw [3] (fun i wr=>i = .int .i64 (-1)∧J [] wr) (fun _ _=>0)
 case atStart=>exact ⟨rfl,h0⟩
 case round =>
  obtain ⟨rfl,hJs⟩:=hrel
  gi_wp2
  go_end0
  exact ⟨⟨_,rfl⟩,hJs⟩
set_option maxHeartbeats 1000000 in
theorem ajK (a:Option Addr) (len cap:Nat) (w:World) :
  CallsIn Fence.wide 3 Tryz.prog 105 #[.slice a len cap] w fun e w'=>e = .returned (.func (.func 138) #[] #[.pointer (some ⟨w.heap.size,0,none⟩)])∧w'=w.alloc (.cells #[.slice a len cap] 22):=by
 refine callsIn_of_wp Tryz.func105 rfl trivial ?_ rfl
 simp only [Tryz.ntmps105,List.size_toArray,List.length_cons,List.length_nil,Nat.reduceAdd,Nat.reduceSub,Array.replicate_succ,Array.replicate_zero,List.push_toArray,List.append_toArray,List.nil_append,List.cons_append]
 gi_wp2
 go_ret
 exact ⟨rfl,rfl⟩
theorem U6 (Bs:Nat) (v:Value) (xs:List Nat) (w:World) (J7:Bs<w.heap.size) (hc:w.cell? ⟨Bs,0,none⟩=some v) (hU:U w v xs) :
  SeqStopsK Fence.wide 3 Tryz.prog 138 #[.pointer (some ⟨Bs,0,none⟩)] (apI xs) (Below w.heap.size) (fun ys=>ys.map (·.1)=vO xs.length xs.length)
   (fun pre=>∃ k,k≤xs.length∧pre.map (·.1)=vO xs.length k) xs.length w:=fun l J Jx W hW _ _ hY h0=>by
 have hc':=(hW.cell (p:=⟨Bs,0,none⟩) J7).trans hc
 obtain ⟨A,c,rfl,⟨h1,h2⟩,hx,hr⟩:=hU
 rcases Nat.eq_zero_or_pos xs.length with h3 | h3
 · rw [h3] at hc'
   refine (Oz l Bs A c J W hc' h0).mono fun e W' ⟨he,hj⟩=>⟨he,.inl ⟨[],by rw [h3];rfl,hj⟩⟩
 · obtain ⟨ad,rfl,hb,hcell⟩:=hr h3
   exact agO l Bs ad c xs h2 w.heap.size hb J Jx hY W J7 hc' (fun j hj=>(hW.cell (p:=ad.add j) (by rw [aM];exact hb)).trans (hcell j hj)) h0
end Go.Proofs.YtnilonnkcbkdmaaGreatDoor
