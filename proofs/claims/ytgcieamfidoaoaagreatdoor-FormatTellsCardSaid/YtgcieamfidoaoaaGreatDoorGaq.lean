/- Base. -/
import Derived.Test.YtgcieamfidoaoaaGreatDoorGap
import Derived.Test.YtgcieamfidoaoaaGreatDoorGao
import Derived.WalkMore
set_option linter.all false
set_option maxHeartbeats 8000000
namespace Go.Proofs.YtgcieamfidoaoaaGreatDoor
open Go.Proofs.Tryz
open Go.RowKit
def Sg (pre s post:List Nat):List Nat:=pre++(s++post)
theorem Ld (pre s post:List Nat) (off i:Nat) (h0:pre.length=off) (h:i<s.length):lb (Sg pre s post) (off+i)=lb s i:=by unfold Sg;rw [tN,if_neg (by omega),tN,if_pos (by omega),h0,Nat.add_sub_cancel_left]
theorem EB (pre s post:List Nat) (off i x:Nat) (h0:pre.length=off) (h:i<s.length):(Sg pre s post).set (off+i) x=Sg pre (s.set i x) post:=by unfold Sg;grind
theorem NU (pre s post:List Nat):(Sg pre s post).length=pre.length+s.length+post.length:=by unfold Sg;rw [List.length_append,List.length_append];omega
theorem TQ (pre s post:List Nat):bI (Sg pre s post)=bI pre+BB^pre.length*(bI s+BB^s.length*bI post):=by unfold Sg;rw [kW,kW]
theorem TS (o:List Nat) (j k:Nat):o=Sg (o.take j) ((o.drop j).take k) ((o.drop j).drop k):=by unfold Sg;rw [List.take_append_drop,List.take_append_drop]
structure DgI (n A T i:Nat) (s0 s:List Nat) (bo:Nat):Prop where
 len:s.length=n
 lt:∀ x∈s,x<18446744073709551616
 b1:bo<18446744073709551616
 val:bI s+T=A+BB^i*bo
 out:∀ m,i≤m→lb s m=lb s0 m
theorem DgI.step {n A T i:Nat} {s0 s:List Nat} {bo:Nat} (h:DgI n A T i s0 s bo) (hi:i<n) (t x b2:Nat) (hd:lb s i+BB*b2=x+t+bo) (hx:x<18446744073709551616) (hb:b2<18446744073709551616) :DgI n A (T+BB^i*t) (i+1) s0 (s.set i x) b2:=by
 refine ⟨by simp [h.len],ko h.lt hx,hb,?_,fun m hm=>?_⟩
 · rw [Nat.pow_succ];exact Iw _ _ _ _ _ _ _ _ _ _ (qA s i x (by rw [h.len];exact hi)) h.val hd
 · rw [fH _ (by omega)];exact h.out m (by omega)
theorem uN (s:List Nat) (n:Nat) (hl:s.length=n+1) (hx:∀ x∈s,x<18446744073709551616):bI s<BB^n*(lb s n+1):=by have h1:=iZ s n (by omega);rw [List.take_of_length_le (by omega)] at h1;have h2:=yY (s.take n) (fun x h=>hx x (List.mem_of_mem_take h));grind
theorem abN (n T:Nat) (s0 s:List Nat) (bo t x:Nat) (h:DgI (n+1) (bI s0) T n s0 s bo) (ht:lb s0 n=t) (hx:x+bo=t):bI (s.set n x)+T=bI s0∧∀ y∈s.set n x,y<18446744073709551616:=by
 have hs:=qA s n x (by rw [h.len];omega);have hb:t<18446744073709551616:=by rw [← ht,← h.out n (Nat.le_refl _)];exact gD (by decide) h.lt n
 rw [h.out n (Nat.le_refl _),ht] at hs;have hv:=h.val;have h1:BB^n*x+BB^n*bo=BB^n*t:=by rw [← Nat.mul_add,hx]
 exact ⟨by omega,ko h.lt (by omega)⟩
theorem TT (n T:Nat) (s0 s:List Nat) (bo t x:Nat) (h:DgI (n+1) (bI s0) T n s0 s bo) (ht:lb s0 n=t) (hx:x+bo=t+BB) (hb:t<bo):bI (s.set n x)+T=bI s0+BB^n*BB∧∀ y∈s.set n x,y<18446744073709551616:=by
 have hs:=qA s n x (by rw [h.len];omega);rw [h.out n (Nat.le_refl _),ht] at hs;have hv:=h.val;have h1:BB^n*x+BB^n*bo=BB^n*t+BB^n*BB:=by rw [← Nat.mul_add,hx,Nat.mul_add]
 exact ⟨by omega,ko h.lt (by unfold BB at hx;omega)⟩
theorem TU (n T V q1 A S1:Nat) (s2:List Nat) (c:Nat) (hS1:S1+T=A+BB^n*BB) (hT:T=q1*V+V) (hA:q1*V≤A) (h:NV (n+1) 0 (S1+V) n s2 c) :(lb s2 n+c)=BB∧bI (s2.set n 0)+q1*V=A:=by
 have hv:=h.val;rw [Nat.zero_add] at hv;have hc:=h.Ec;have hl:=uN s2 n h.len h.lt;have hw:lb s2 n<BB:=gD (by decide) h.lt n;have h1:BB^n*BB<BB^n*(lb s2 n+1+c):=by rw [Nat.mul_add _ _ c];omega
 have h2:BB<lb s2 n+1+c:=Nat.lt_of_mul_lt_mul_left h1;have h3:lb s2 n+c=BB:=by omega
 refine ⟨h3,?_⟩;have hs:=qA s2 n 0 (by rw [h.len];omega);have h4:BB^n*lb s2 n+BB^n*c=BB^n*BB:=by rw [← Nat.mul_add,h3]
 rw [Nat.mul_zero] at hs;omega
theorem Ed (s:List Nat) (k:Nat) (hl:s.length=k+1):bI s=lb s k*BB^k+bI (s.take k):=by have h1:=iZ s k (by omega);grind
theorem zR (s:List Nat) (k:Nat) (hl:s.length=k+2):bI s=(lb s (k+1)*BB+lb s k)*BB^k+bI (s.take k):=by have h0:=Ed s (k+1) (by omega);have h1:=iZ s k (by omega);grind
theorem Iy (s:List Nat) (k:Nat) (hl:s.length=k+3):bI s=((lb s (k+2)*BB+lb s (k+1))*BB+lb s k)*BB^k+bI (s.take k):=by have h0:bI s=(lb s (k+2)*BB+lb s (k+1))*BB^(k+1)+bI (s.take (k+1)):=zR s (k+1) (by omega);have h1:=iZ s k (by omega);grind
theorem wu (s:List Nat) (k:Nat) (hk:k≤s.length) (hx:∀ x∈s,x<18446744073709551616):bI (s.take k)<BB^k:=by have h2:=yY (s.take k) (fun x h=>hx x (List.mem_of_mem_take h));grind
theorem abO (s vs:List Nat) (k:Nat) (hs:s.length=k+2) (hv:vs.length=k+1) (hx:∀ x∈vs,x<18446744073709551616) (h:bI s<BB*bI vs):lb s (k+1)≤lb vs k:=by
 have h1:=Ed s (k+1) hs;have h2:=uN vs k hv hx
 have h3:lb s (k+1)*BB^(k+1)<(lb vs k+1)*BB^(k+1):=by
  have:BB*bI vs≤BB*(BB^k*(lb vs k+1)):=Nat.mul_le_mul_left _ (Nat.le_of_lt h2);have e:(lb vs k+1)*BB^(k+1)=BB*(BB^k*(lb vs k+1)):=by rw [Nat.pow_succ,Nat.mul_comm (lb vs k+1),Nat.mul_comm (BB^k) BB,Nat.mul_assoc]
  omega
 have:=Nat.lt_of_mul_lt_mul_right h3;omega
structure Rw (V A n m j:Nat) (o ql:List Nat):Prop where
 lo:o.length=m
 xo:∀ x∈o,x<18446744073709551616
 lq:ql.length+n=m
 xq:∀ x∈ql,x<18446744073709551616
 zero:∀ i,i<j→lb ql i=0
 sum:bI o+V*bI ql=A
 small:bI (o.drop j)<V
theorem PW {V A n m j:Nat} {o ql:List Nat} (h:Rw V A n m (j+1) o ql) (hj:j+1+n≤m) (hV:V<BB^n) :((o.drop j).take (n+1)).length=n+1∧bI ((o.drop j).take (n+1))<BB*V∧bI ((o.drop j).drop (n+1))=0∧(o.take j).length=j:=by
 have hl:=h.lo;have h1:(o.drop j).length=m-j:=by simp [hl]
 have h2:o.drop j=lb o j::o.drop (j+1):=by rw [List.drop_eq_getElem_cons (by omega)];congr 1;unfold lb;rw [List.getElem?_eq_getElem (by omega)];rfl
 have h3:bI (o.drop j)=lb o j+BB*bI (o.drop (j+1)):=by rw [h2];rfl
 have h4:lb o j<BB:=gD (by decide) h.xo j;have h5:bI (o.drop j)<BB*V:=by have:BB*(bI (o.drop (j+1))+1)≤BB*V:=Nat.mul_le_mul_left _ h.small;rw [Nat.mul_add] at this;omega
 have h6:=oQ (o.drop j) (n+1) (by omega);have h7:BB*V<BB^(n+1):=by rw [Nat.pow_succ,Nat.mul_comm];exact Nat.mul_lt_mul_of_pos_right hV (by decide)
 refine ⟨by rw [List.length_take,h1];omega,by omega,?_,by rw [List.length_take];omega⟩;rcases Nat.eq_zero_or_pos (bI ((o.drop j).drop (n+1))) with h8 | h8
 · exact h8
 · have:=Nat.mul_le_mul_left (BB^(n+1)) h8;omega
theorem Rw.step {V A n m j:Nat} {o ql:List Nat} (h:Rw V A n m (j+1) o ql) (hj:j+1+n≤m) (hV:V<BB^n) (q r:Nat) (s':List Nat) (hs:s'.length=n+1) (hx:∀ x∈s',x<18446744073709551616) (hq:q<18446744073709551616) (hdm:q*V+r=bI ((o.drop j).take (n+1))) (hr:bI s'=r) (hrV:r<V):Rw V A n m j (Sg (o.take j) s' ((o.drop j).drop (n+1))) (ql.set j q):=by
 obtain ⟨h1,h2,h3,h4⟩:=PW h hj hV;have hl:=h.lo;have hlq:=h.lq;have hpost:((o.drop j).drop (n+1)).length=m-j-(n+1):=by simp only [List.length_drop,hl]
 have hset:=qA ql j q (by omega);rw [h.zero j (by omega),Nat.mul_zero,Nat.add_zero] at hset;have hw:=TQ (o.take j) ((o.drop j).take (n+1)) ((o.drop j).drop (n+1));rw [← TS,h3,Nat.mul_zero,Nat.add_zero,h4] at hw;have hw2:=TQ (o.take j) s' ((o.drop j).drop (n+1));rw [h3,h4,hr] at hw2;simp only [Nat.mul_zero,Nat.add_zero] at hw2;have hsum:=h.sum;refine ⟨?_,?_,by simpa using h.lq,ko h.xq hq,fun i hi=>?_,?_,?_⟩
 · rw [NU,h4,hs,hpost];omega
 · intro x hx';unfold Sg at hx';rw [List.mem_append,List.mem_append] at hx';rcases hx' with hx' | hx' | hx'
   · exact h.xo x (List.mem_of_mem_take hx')
   · exact hx x hx'
   · exact h.xo x (List.mem_of_mem_drop (List.mem_of_mem_drop hx'))
 · rw [fH _ (by omega)];exact h.zero i (by omega)
 · rw [hset,hw2,Nat.mul_add V];have e:V*(BB^j*q)=BB^j*(q*V):=(by rw [Nat.mul_left_comm,Nat.mul_comm V q]);have e2:BB^j*bI ((o.drop j).take (n+1))=BB^j*(q*V)+BB^j*r:=(by rw [← hdm,Nat.mul_add]);omega
 · have:(Sg (o.take j) s' ((o.drop j).drop (n+1))).drop j=s'++(o.drop j).drop (n+1):=(by unfold Sg;rw [List.drop_append,List.drop_eq_nil_of_le (by omega),h4,Nat.sub_self,List.drop_zero,List.nil_append]);rw [this,kW,h3,Nat.mul_zero,Nat.add_zero,hr];exact hrV
theorem Rw.done {V A n m:Nat} {o ql:List Nat} (h:Rw V A n m 0 o ql) (hV:V<BB^n) (hn:n≤m):A/V=bI ql∧bI (o.take n)=A%V:=by
 have h1:=h.small;rw [List.drop_zero] at h1;have hs:=h.sum;have hd:=Jr V A (bI ql) (bI o) (by rw [Nat.mul_comm];omega) h1;refine ⟨hd.1,?_⟩;rw [hd.2];have h6:=oQ o n (by rw [h.lo];exact hn);rcases Nat.eq_zero_or_pos (bI (o.drop n)) with h8 | h8
 · rw [h8,Nat.mul_zero] at h6;omega
 · have:=Nat.mul_le_mul_left (BB^n) h8;omega
theorem Rw.start (V A n m:Nat) (o:List Nat) (k:Nat) (hk:k+n=m) (hn:0<n) (hlo:o.length=m) (hx:∀ x∈o,x<18446744073709551616) (hA:bI o=A) (hlt:A<BB^(m-1)) (hV:BB^(n-1)≤V) :Rw V A n m k o (List.replicate k 0):=by
 refine ⟨hlo,hx,by simp;omega,by simp,fun i _=>jL _ _,by rw [mZ,Nat.mul_zero,Nat.add_zero];exact hA,?_⟩;have h6:=oQ o k (by omega);have h7:BB^k*bI (o.drop k)<BB^k*BB^(n-1):=by rw [← Nat.pow_add,show k+(n-1)=m-1 by omega];omega
 exact Nat.lt_of_lt_of_le (Nat.lt_of_mul_lt_mul_left h7) hV
structure PX (xs:List Nat) (n i:Nat) (o:List Nat):Prop where
 len:o.length=n
 at_:∀ j,lb o j=lb (xs.take i) (2*j)+4294967296*lb (xs.take i) (2*j+1)
theorem PX.start (xs:List Nat) (n:Nat):PX xs n 0 (List.replicate n 0):=⟨by simp,fun j=>by rw [jL];simp [lb]⟩
theorem jq {xs:List Nat} {k j:Nat} (h:k≤j):lb (xs.take k) j=0:=qV (by rw [List.length_take];omega)
theorem PX.low {xs:List Nat} {n i:Nat} {o:List Nat} (h:PX xs n i o) (k:Nat) (hk:i=2*k) (hi:k<n) (x:Nat) (hx:lb xs i=x):lb o k=0∧PX xs n (i+1) (o.set k x):=by
 refine ⟨by rw [h.at_,jq (by omega),jq (by omega)],by simp [h.len],fun j=>?_⟩;rw [EC _ _ _ _ (by rw [h.len];exact hi)];by_cases e:k=j
 · rw [if_pos e,← e,← hk,kC (by omega),jq (by omega),hx];omega
 · rw [if_neg e,h.at_];rcases Nat.lt_or_ge j k with g | g
   · rw [kC (by omega),kC (by omega),kC (by omega),kC (by omega)]
   · rw [jq (by omega),jq (by omega),jq (by omega),jq (by omega)]
theorem PX.high {xs:List Nat} {n i:Nat} {o:List Nat} (h:PX xs n i o) (k:Nat) (hk:i=2*k+1) (hi:k<n) (x:Nat) (hx:lb xs i=x):lb o k=lb xs (2*k)∧PX xs n (i+1) (o.set k (lb o k+4294967296*x)):=by
 have h0:lb o k=lb xs (2*k):=by rw [h.at_,kC (by omega),jq (j:=2*k+1) (by omega)];omega
 refine ⟨h0,by simp [h.len],fun j=>?_⟩;rw [EC _ _ _ _ (by rw [h.len];exact hi)];by_cases e:k=j
 · rw [if_pos e,← e,h0,kC (by omega),kC (by omega),← hk,hx]
 · rw [if_neg e,h.at_];rcases Nat.lt_or_ge j k with g | g
   · rw [kC (by omega),kC (by omega),kC (by omega),kC (by omega)]
   · rw [jq (by omega),jq (by omega),jq (by omega),jq (by omega)]
theorem PX.done {xs:List Nat} {n i:Nat} {o:List Nat} (h:PX xs n i o) (hi:xs.length=i) (hn:(i+1)/2≤n) (hx:∀ x∈xs,x<4294967296):bI o=val xs∧∀ x∈o,x<18446744073709551616:=by
 have ht:xs.take i=xs:=by rw [← hi];exact List.take_length
 have e:o=kQ xs++List.replicate (n-(i+1)/2) 0:=by
  refine ww ?_ fun j hj=>?_
  · rw [List.length_append,ni,hi,List.length_replicate,h.len];omega
  · rw [h.at_,ht,tN];split
    · rw [zS]
    · rename_i g;rw [ni,hi] at g;rw [jL,qV (o:=xs) (by omega),qV (o:=xs) (by omega)]
 refine ⟨?_,?_⟩
 · rw [e,kW,qL,mZ,Nat.mul_zero,Nat.add_zero]
 · rw [e];intro x hx';rw [List.mem_append] at hx';rcases hx' with hx' | hx'
   · exact wy xs hx x hx'
   · rw [List.mem_replicate] at hx';omega
structure KY (V U v1 t1 q r:Nat):Prop where
 inv:q*v1+r=t1
 top:U<(q+1)*V
 lt:q<18446744073709551616
theorem TV (s vs:List Nat) (k q r v1 t1:Nat) (hs:s.length=k+2) (hv:vs.length=k+1) (hx:∀ x∈s,x<18446744073709551616) (hv1:lb vs k=v1) (ht:lb s (k+1)*18446744073709551616+lb s k=t1) (hq:q*v1+r=t1) (hr:r<v1) (hlt:q<18446744073709551616):KY (bI vs) (bI s) v1 t1 q r:=by
 refine ⟨hq,?_,hlt⟩;have h1:=zR s k hs;have h2:=Ed vs k hv;have h3:=wu s k (by omega) hx;have ht':lb s (k+1)*BB+lb s k=t1:=ht;rw [ht'] at h1;rw [hv1] at h2;have h4:t1+1≤(q+1)*v1:=by rw [Nat.add_mul,Nat.one_mul];omega
 have h5:=Nat.mul_le_mul_right (BB^k) h4;have h6:(q+1)*bI vs=(q+1)*v1*BB^k+(q+1)*bI (vs.take k):=by rw [h2,Nat.mul_add,Nat.mul_assoc]
 grind
theorem Yp (V U v1 u1 t1:Nat) (h1:v1*18446744073709551616+u1=t1) (hUV:U<BB*V):KY V U v1 t1 18446744073709551615 (u1+v1) :=
 ⟨by omega,by simpa [BB] using hUV,by decide⟩
theorem aaO {V U v1 t1 q r:Nat} (h:KY V U v1 t1 q r) (P D T v0 u0:Nat):GsI BB P D T V U v1 v0 t1 u0 q r:=⟨h.inv,h.top,h.lt⟩
theorem Yq (s vs:List Nat) (k q r v1 v0 u0 t1:Nat) (hs:s.length=k+3) (hv:vs.length=k+2) (hx:∀ x∈s,x<18446744073709551616) (hv1:lb vs (k+1)=v1) (hv0:lb vs k=v0) (hu0:lb s k=u0) (ht:lb s (k+2)*18446744073709551616+lb s (k+1)=t1) (h:KY (bI vs) (bI s) v1 t1 q r) (hgt:r*18446744073709551616+u0<q*v0):1≤q∧KY (bI vs) (bI s) v1 t1 (q-1) (r+v1):=by have h1:=Iy s k hs;have h2:=zR vs k hv;have h3:=wu s k (by omega) hx;have ht':lb s (k+2)*BB+lb s (k+1)=t1:=ht;rw [ht',hu0] at h1;rw [hv1,hv0] at h2;obtain ⟨a,b⟩:=Yi BB (BB^k) (v1*BB+v0) (t1*BB+u0) (bI vs) (bI s) v1 v0 (bI (vs.take k)) t1 u0 (bI (s.take k)) q r rfl rfl h2 h1 h3 (aaO h _ _ _ _ _) hgt;exact ⟨a,b.inv,b.top,b.lt⟩
theorem abP (s vs:List Nat) (k q r v1 v0 u0 t1:Nat) (hs:s.length=k+3) (hv:vs.length=k+2) (hx:∀ x∈vs,x<18446744073709551616) (hv1:lb vs (k+1)=v1) (hv0:lb vs k=v0) (hu0:lb s k=u0) (ht:lb s (k+2)*18446744073709551616+lb s (k+1)=t1) (h:KY (bI vs) (bI s) v1 t1 q r) (h1v:1≤v1) (hle:q*v0≤r*18446744073709551616+u0):q*bI vs≤bI s+bI vs:=by have h1:=Iy s k hs;have h2:=zR vs k hv;have h3:=wu vs k (by omega) hx;have ht':lb s (k+2)*BB+lb s (k+1)=t1:=ht;rw [ht',hu0] at h1;rw [hv1,hv0] at h2;exact abK BB (BB^k) (v1*BB+v0) (t1*BB+u0) (bI vs) (bI s) v1 v0 (bI (vs.take k)) t1 u0 (bI (s.take k)) q r rfl rfl h2 h1 (by omega) (by have:=Nat.mul_le_mul_right BB h1v;omega) (aaO h _ _ _ _ _) hle
theorem abQ (s vs:List Nat) (q r v1 t1:Nat) (hs:s.length=2) (hv:vs.length=1) (hv1:lb vs 0=v1) (ht:lb s 1*18446744073709551616+lb s 0=t1) (h:KY (bI vs) (bI s) v1 t1 q r):q*bI vs≤bI s+bI vs:=by have h1:=zR s 0 hs;have h2:=Ed vs 0 hv;have ht':lb s (0+1)*BB+lb s 0=t1:=ht;have e0:bI []=0:=rfl;rw [h2,h1];have:=h.inv;grind
theorem zT {k:Nat} (h:k≤1000000):IntKind.i64.wrap (k:Int)=(k:Int):=by rw [IntKind.wrap_i64];omega
theorem mE {k:Nat} (h:k<18446744073709551616):IntKind.u64.wrap (k:Int)=(k:Int):=by rw [IntKind.wrap_u64];omega
theorem nN {k:Nat} (h:k<18446744073709551616):(k:Int)%18446744073709551616=(k:Int):=by omega
theorem sub_one (z y s c:Nat) (hz:z<18446744073709551616) (hy:y<18446744073709551616) (hs:(z+18446744073709551616-y-0)%18446744073709551616=s) (hc:(if z<y+0 then 1 else 0)=c):s+y=z+18446744073709551616*c:=by grind
theorem ad8 {w x y:World} {p q:Addr} {v1 v2:Value} (hp:p.block<w.heap.size) (hq:q.block<w.heap.size) (h:(x.cell? p=some v1∧x.cell? q=some v2)∧Ext w x) (hB:Ext x y):(y.cell? p=some v1∧y.cell? q=some v2)∧Ext w y:=by obtain ⟨⟨h0,h1⟩,h2⟩:=h;have hs:=h2.size;exact ⟨⟨by rw [hB.cell (by omega)];exact h0,by rw [hB.cell (by omega)];exact h1⟩,h2.below hB⟩
set_option maxRecDepth 100000 in
theorem Le (w:World) (g1 g2:Nat) (vu vv:Value) (s vs:List Nat) (hu:V g1 w vu s) (hv:V g2 w vv vs) (n k:Nat) (hk:n=k+1) (hs:s.length=n+1) (hvs:vs.length=n) (hn:n≤1000000) (top:9223372036854775808≤lb vs k) (hlt:bI s<BB*bI vs) :Calls prog 240 #[vu,vv] w fun e w'=>(∃ q,e = .returned (.int .u64 (q:Nat))∧q<18446744073709551616∧bI s<(q+1)*bI vs∧q*bI vs≤bI s+bI vs)∧Ext w w':=by
 have hxs:=hu.lim;have hxv:=hv.lim;have hle:=abO s vs k (by omega) (by omega) hxv hlt;obtain ⟨au,cu,rfl,hcu,hbu,hgu,Js⟩:=hu.opened (n:=n+1) hs (by omega);obtain ⟨av,cv,rfl,hcv,hbv,hgv,Cc⟩:=hv.opened (n:=n) hvs (by omega);obtain ⟨v1,hv1⟩:∃ v1,lb vs k=v1:=⟨_,rfl⟩;obtain ⟨u1,hu1⟩:∃ u1,lb s k=u1:=⟨_,rfl⟩;obtain ⟨u2,hu2⟩:∃ u2,lb s (k+1)=u2:=⟨_,rfl⟩;obtain ⟨t1,ht1⟩:∃ t1,u2*18446744073709551616+u1=t1:=⟨_,rfl⟩;have cv1:=Cc k (by omega);have cu1:=Js k (by omega);have cu2:=Js n (by omega);have DX:v1<18446744073709551616:=by rw [← hv1];exact gD (by decide) hxv k
 have Rx:u1<18446744073709551616:=by rw [← hu1];exact gD (by decide) hxs k
 have TW:u2<18446744073709551616:=by rw [← hu2];exact gD (by decide) hxs (k+1)
 rw [hv1] at cv1 hle top;rw [hu1] at cu1;rw [hk] at cu2;rw [hu2,← hk] at cu2;rw [hu2] at hle;have HA:Hid (∀ q r,q*v1+r=t1→r<v1→q<18446744073709551616→KY (bI vs) (bI s) v1 t1 q r):=fun q r h1 h2 h3=>TV s vs k q r v1 t1 (by omega) (by omega) hxs hv1 (by rw [hu2,hu1];exact ht1) h1 h2 h3;have HF:Hid (u2=v1→KY (bI vs) (bI s) v1 t1 18446744073709551615 (u1+v1)):=fun e=>Yp _ _ v1 u1 t1 (by rw [← e];exact ht1) hlt
 have HD:Hid (∀ j v0 u0 q r,n=j+2→lb vs j=v0→lb s j=u0→KY (bI vs) (bI s) v1 t1 q r→r*18446744073709551616+u0<q*v0→1≤q∧KY (bI vs) (bI s) v1 t1 (q-1) (r+v1)):=fun j v0 u0 q r hj h1 h2 h3 h4 =>
  Yq s vs j q r v1 v0 u0 t1 (by omega) (by omega) hxs (by rw [← hv1];congr 1;omega) h1 h2 (by rw [show j+2=k+1 by omega,show j+1=k by omega,hu2,hu1];exact ht1) h3 h4
 have HE:Hid (∀ j v0 u0 q r,n=j+2→lb vs j=v0→lb s j=u0→KY (bI vs) (bI s) v1 t1 q r→q*v0≤r*18446744073709551616+u0→q*bI vs≤bI s+bI vs):=fun j v0 u0 q r hj h1 h2 h3 h4 =>
  abP s vs j q r v1 v0 u0 t1 (by omega) (by omega) hxv (by rw [← hv1];congr 1;omega) h1 h2 (by rw [show j+2=k+1 by omega,show j+1=k by omega,hu2,hu1];exact ht1) h3 (by omega) h4
 have HO:Hid (n=1→∀ q r,KY (bI vs) (bI s) v1 t1 q r→q*bI vs≤bI s+bI vs):=fun e q r h=>by
  have e0:k=0:=by omega
  rw [e0] at hv1 hu1 hu2;exact abQ s vs q r v1 t1 (by omega) (by omega) hv1 (by rw [hu2,hu1];exact ht1) h
 have HDV:Hid (u2<v1→∃ q r,(u2*18446744073709551616+u1)/v1=q∧(u2*18446744073709551616+u1)%v1=r∧q*v1+r=t1∧r<v1∧q<18446744073709551616):=fun h=>by refine ⟨_,_,rfl,rfl,by rw [← ht1,Nat.mul_comm (_/_)];exact Nat.div_add_mod _ _,Nat.mod_lt _ (by omega),?_⟩;exact Nat.div_lt_of_lt_mul (by have:=Nat.mul_le_mul_right 18446744073709551616 (show u2+1≤v1 from h);omega)
 have HLV:Hid (∀ j,lb vs j<18446744073709551616):=fun j=>gD (by decide) hxv j;have HLS:Hid (∀ j,lb s j<18446744073709551616):=fun j=>gD (by decide) hxs j;have HCV:=Lib.hid Cc;have HCU:=Lib.hid Js;have e1:(n:Int)-1=(k:Int):=by omega
 have e2:k<n:=by omega
 have e3:(n:Int)<(n:Int)+1:=by omega
 have e4:(k:Int)<(n:Int)+1:=by omega
 have e5:k<n+1:=by omega
 obtain ⟨r0,hr0⟩:∃ r0,(u1+v1)%18446744073709551616=r0:=⟨_,rfl⟩;have a1:((u1:Int)+(v1:Int))%18446744073709551616=(r0:Int):=by omega
 have a2:IntKind.u64.wrap ((u1:Int)+(v1:Int))=(r0:Int):=by rw [IntKind.wrap_u64];exact a1
 have TY:r0<18446744073709551616:=by omega
 have a3:IntKind.u64.wrap (r0:Int)=(r0:Int):=by rw [IntKind.wrap_u64];omega
 have HR0:=Lib.hid hr0;have HT:=Lib.hid (And.intro DX (And.intro Rx (And.intro TW (And.intro hle (And.intro top TY)))));have k1:=zT (show k≤1000000 by omega);have k2:=zT hn;have k3:(0:Int)≤(k:Int):=Int.natCast_nonneg k;have k4:(0:Int)≤(n:Int):=Int.natCast_nonneg n;have hE0:=Ext.refl w;have HK:=Lib.hid hk;clear hk hxs hxv hlt hv hu hs hvs Js Cc hu1 hu2 hv1 ht1 DX Rx TW hle top hr0 TY hcu hcv hgu hgv;obtain ⟨b0,hb0⟩:∃ b0:Bool,decide (r0<v1)=b0:=⟨_,rfl⟩;have HB0:=Lib.hid hb0;go_enter func240,ntmps240;go_wp2;go_step3;go_wp2_with (fail);go_region;go_upto_if 34 with (fail);have hS0:(w.drew.drew.cell? (au.add n)=some (.int .u64 (u2:Nat))∧w.drew.drew.cell? (au.add k)=some (.int .u64 (u1:Nat)))∧Ext w w.drew.drew:=⟨⟨cu2,cu1⟩,hE0.drew.drew⟩;have hpn:(au.add n).block<w.heap.size:=by rw [aW];exact hbu
 have hpk:(au.add k).block<w.heap.size:=by rw [aW];exact hbu
 go_cut [7,8,9] from 12 (fun s7 s8 s9 wx=>∃ (q r r':Nat) (b:Bool),s7 = .int .u64 (q:Nat)∧s8 = .int .u64 (r':Nat)∧s9 = .bool b∧Hid (KY (bI vs) (bI s) v1 t1 q r∧r%18446744073709551616=r'∧decide (18446744073709551616≤r)=b)∧Ext w wx)
 case first =>
  obtain ⟨DX,Rx,TW,hle,top,TY⟩:=HT.out;by_cases h:u2<v1
  · obtain ⟨q,r,h1,h2,h3,h4,h5⟩:=HDV.out h;have hdv:=Lib.hid (fun W=>Lc W u2 u1 v1 q r top DX Rx h h1 h2);have HG:Hid (KY (bI vs) (bI s) v1 t1 q r∧r%18446744073709551616=r∧decide (18446744073709551616≤r)=false):=⟨HA.out q r h3 h4 h5,Nat.mod_eq_of_lt (by omega),by rw [decide_eq_false_iff_not];omega⟩;clear DX Rx TW hle top TY h1 h2 h3 h4 h5;go_wp2_with (fail)
    go_region_held3 (fun X=>(X.cell? (au.add n)=some (.int .u64 (u2:Nat))∧X.cell? (au.add k)=some (.int .u64 (u1:Nat)))∧Ext w X)
     (first
      | exact hS0
      | exact ad8 hpn hpk (by assumption) (by assumption))
     (first
      | (go_at_call 230;((with_reducible refine (hdv.out _).mono ?_);rintro e w1 ⟨rfl,hB⟩)))
    go_wp2_with (fail);go_meet;case rel =>go_split_ands;exact ⟨q,r,r,false,rfl,rfl,rfl,HG,by assumption⟩
  · have e:u2=v1:=(by omega);have HG:Hid (KY (bI vs) (bI s) v1 t1 18446744073709551615 (u1+v1)∧(u1+v1)%18446744073709551616=r0∧decide (18446744073709551616≤u1+v1)=b0):=⟨HF.out e,HR0.out,by rw [← HB0.out];have:=HR0.out;exact decide_eq_decide.2 ⟨fun g=>by omega,fun g=>by omega⟩⟩;clear DX Rx TW hle top TY e;go_wp2_with (fail);go_meet;case rel=>exact ⟨18446744073709551615,u1+v1,r0,b0,rfl,rfl,rfl,HG,hE0.drew⟩
 case rest =>
  obtain ⟨q,r,r',b,rfl,rfl,rfl,HG,hE⟩:=hcut;clear hS0 cu1 cu2 cv1 a1 a2 a3 hE0 hb0 HDV HA HF HB0 HR0;by_cases h1:n=1
  · have hn1:((n:Int)==1)=true:=(by rw [beq_iff_eq];omega);have X0:Hid (∃ q',Ending.returned (.int .u64 (q:Nat)) = .returned (.int .u64 (q':Nat))∧q'<18446744073709551616∧bI s<(q'+1)*bI vs∧q'*bI vs≤bI s+bI vs):=⟨q,rfl,HG.out.1.lt,HG.out.1.top,HO.out h1 q r HG.out.1⟩;clear HG HD HE HO hpn hpk;go_wp2;rw [Exit.noGoto_ret];go_ret;exact ⟨X0.out,hE⟩
  · obtain ⟨j,hj⟩:∃ j,n=j+2:=⟨n-2,by have:=HK.out;omega⟩;have hn1:((n:Int)==1)=false:=(by rw [beq_eq_false_iff_ne];omega);have hn2:¬ ((n:Int)=1):=(by omega);obtain ⟨v0,hv0⟩:∃ v0,lb vs j=v0:=⟨_,rfl⟩;obtain ⟨u0,hu0⟩:∃ u0,lb s j=u0:=⟨_,rfl⟩;have cv0:=HCV.out j (by omega);have cu0:=HCU.out j (by omega);have ED:=HLV.out j;have Jt:=HLS.out j;rw [hv0] at cv0 ED;rw [hu0] at cu0 Jt;have HD2:=Lib.hid (fun q r=>HD.out j v0 u0 q r hj hv0 hu0);have HE2:=Lib.hid (fun q r=>HE.out j v0 u0 q r hj hv0 hu0);have f1:(n:Int)-2=(j:Int):=(by omega);have f2:j<n:=(by omega);have f3:j<n+1:=(by omega);have HB:=Lib.hid (And.intro ED Jt);have hpv:(av.add j).block<w.heap.size:=(by rw [aW];exact hbv);have hpu:(au.add j).block<w.heap.size:=(by rw [aW];exact hbu);clear hj hv0 hu0 ED Jt HD HE HO HCV HCU HLV HLS HK;go_wp2;go_step3;go_wp2;go_loopw [7,8,9] (fun s7 s8 s9 wr=>∃ (q r r':Nat) (b:Bool),s7 = .int .u64 (q:Nat)∧s8 = .int .u64 (r':Nat)∧s9 = .bool b∧Hid (KY (bI vs) (bI s) v1 t1 q r∧r%18446744073709551616=r'∧decide (18446744073709551616≤r)=b)∧Ext w wr) (fun s7 _ _ _=>(intOf s7).toNat);case atStart=>exact ⟨q,r,r',b,rfl,rfl,rfl,HG,hE⟩
    case round =>
     clear HG hE;obtain ⟨q,r,r',b,rfl,rfl,rfl,HG,hE⟩:=hrel;obtain ⟨hg,hr,hb⟩:=HG.out;obtain ⟨ED,Jt⟩:=HB.out;obtain ⟨DX,-⟩:=HT.out;have TD:=hg.lt;cases b with
     | true =>rw [decide_eq_true_iff] at hb;have X0:Hid (∃ q',Ending.returned (.int .u64 (q:Nat)) = .returned (.int .u64 (q':Nat))∧q'<18446744073709551616∧bI s<(q'+1)*bI vs∧q'*bI vs≤bI s+bI vs):=⟨q,rfl,TD,hg.top,HE2.out q r hg (by have e1:q*v0≤18446744073709551616*18446744073709551616:=Nat.mul_le_mul (by omega) (by omega);have e2:18446744073709551616*18446744073709551616≤r*18446744073709551616:=Nat.mul_le_mul_right _ hb;omega)⟩;clear hg hr hb ED Jt DX TD HG HD2 HE2;go_wp2;rw [Exit.noGoto_ret];go_ret;exact ⟨X0.out,hE⟩
     | false =>
      rw [decide_eq_false_iff_not] at hb;obtain rfl:r'=r:=(by omega);have amx:=(hE.cell hpv).trans cv0;have amy:=(hE.cell hpu).trans cu0;obtain ⟨p,hp⟩:∃ p,q*v0=p:=⟨_,rfl⟩;have hpb:p≤340282366920938463426481119284349108225:=(by rw [← hp];exact abS TD ED);obtain ⟨ph,rX⟩:∃ ph,p/18446744073709551616=ph:=⟨_,rfl⟩;obtain ⟨pl,hpl⟩:∃ pl,p%18446744073709551616=pl:=⟨_,rfl⟩;have hMul:Hid (∀ W,Calls prog 191 #[.int .u64 (q:Nat),.int .u64 (v0:Nat)] W fun e w'=>e = .returned (.tuple #[.int .u64 (ph:Nat),.int .u64 (pl:Nat)])∧w'=W):=(by intro W;have:=wz q v0 TD ED W;rw [hp,rX,hpl] at this;exact this);by_cases hle:p≤r'*18446744073709551616+u0
      · have X0:Hid (∃ q',Ending.returned (.int .u64 (q:Nat)) = .returned (.int .u64 (q':Nat))∧q'<18446744073709551616∧bI s<(q'+1)*bI vs∧q'*bI vs≤bI s+bI vs):=⟨q,rfl,TD,hg.top,HE2.out q r' hg (by rw [hp];exact hle)⟩;rcases (show ph<r'∨ph=r'∧pl≤u0 by omega) with h | ⟨h,h2⟩
        · clear hle hpb rX hpl hp TD hg hr hb ED Jt DX HG HD2 HE2;go_wp2_with (fail);refine (hMul.out _).mono ?_;rintro e w' ⟨rfl,rfl⟩;clear hMul;go_wp2;rw [Exit.noGoto_ret];go_ret;exact ⟨X0.out,hE⟩
        · subst h;have h3:¬ ph<ph:=(by omega);have h4:((ph:Int)==(ph:Int))=true:=(by rw [beq_iff_eq]);clear hle hpb rX hpl hp TD hg hr hb ED Jt DX HG HD2 HE2;go_wp2_with (fail);refine (hMul.out _).mono ?_;rintro e w' ⟨rfl,rfl⟩;clear hMul;go_wp2;rw [Exit.noGoto_ret];go_ret;exact ⟨X0.out,hE⟩
      · obtain ⟨hq1,hg2⟩:=HD2.out q r' hg (by rw [hp];omega);obtain ⟨q2,hq2⟩:∃ q2,q-1=q2:=⟨_,rfl⟩;rw [hq2] at hg2;obtain ⟨r2,hr2⟩:∃ r2,(r'+v1)%18446744073709551616=r2:=⟨_,rfl⟩;obtain ⟨b2,hb2⟩:∃ b2:Bool,decide (r2<v1)=b2:=⟨_,rfl⟩;have HG2:Hid (KY (bI vs) (bI s) v1 t1 q2 (r'+v1)∧(r'+v1)%18446744073709551616=r2∧decide (18446744073709551616≤r'+v1)=b2):=⟨hg2,hr2,by rw [← hb2];exact decide_eq_decide.2 ⟨fun g=>by omega,fun g=>by omega⟩⟩;have g1:(q:Int)-1=(q2:Int):=(by omega);have g2:(q2:Int)%18446744073709551616=(q2:Int):=(by omega);have g3:IntKind.u64.wrap (q2:Int)=(q2:Int):=(by rw [IntKind.wrap_u64];omega);have g4:((r':Int)+(v1:Int))%18446744073709551616=(r2:Int):=(by omega);have g5:IntKind.u64.wrap ((r':Int)+(v1:Int))=(r2:Int):=(by rw [IntKind.wrap_u64];exact g4);have HQ:Hid (q2<q):=(by show q2<q;omega);have h3:¬ ph<r':=(by omega);rcases (show ¬ ph=r'∨ph=r'∧¬ pl≤u0 by omega) with h | ⟨h,h2⟩
        · have h4:((ph:Int)==(r':Int))=false:=(by rw [beq_eq_false_iff_ne];omega);clear hle hpb rX hpl hp TD hg hr hb ED Jt DX HG HD2 HE2 hq1 hg2 hq2 hr2;go_wp2_with (fail);refine (hMul.out _).mono ?_;rintro e w' ⟨rfl,rfl⟩;clear hMul;go_wp2;go_roundw;case rel=>exact ⟨q2,r'+v1,r2,b2,rfl,rfl,by first | rfl | exact congrArg Value.bool hb2,HG2,hE⟩
          case measure=>have:=HQ.out;simp [intOf];omega
        · subst h;have h4:((ph:Int)==(ph:Int))=true:=(by rw [beq_iff_eq]);have h5:decide ((pl:Int)≤(u0:Int))=false:=(by rw [decide_eq_false_iff_not];omega);clear hle hpb rX hpl hp TD hg hr hb ED Jt DX HG HD2 HE2 hq1 hg2 hq2 hr2;go_wp2_with (fail);refine (hMul.out _).mono ?_;rintro e w' ⟨rfl,rfl⟩;clear hMul;go_wp2;go_roundw;case rel=>exact ⟨q2,ph+v1,r2,b2,rfl,rfl,by first | rfl | exact congrArg Value.bool hb2,HG2,hE⟩
          case measure=>have:=HQ.out;simp [intOf];omega
