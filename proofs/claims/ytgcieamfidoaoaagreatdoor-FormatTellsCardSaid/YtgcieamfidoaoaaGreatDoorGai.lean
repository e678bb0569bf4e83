/- Base. -/
import Derived.Test.YtgcieamfidoaoaaGreatDoorGah
import Derived.Laws.Externs
import Derived.Laws.Cover2
import Derived.Laws.Tables
import Derived.Laws.Small
import Derived.Test.YtgcieamfidoaoaaGreatDoorRows
import Derived.Test.YtgcieamfidoaoaaGreatDoorCards
import Derived.Test.YtgcieamfidoaoaaGreatDoorTie
import Derived.SevenTiedAt
import Derived.LaidMore
import Derived.Stop.Joined
import Derived.JoinedOf
import Derived.JoinedAt
import Derived.Lib.SmallJoins
import Derived.Laws.BitsLemmas
import Derived.Maps.AppendAt
import Derived.Deep.Cut
import Derived.Deep.CutRange
import Derived.Shelf.Bits.Mul64
import Derived.BigRegion
set_option linter.all false
set_option maxHeartbeats 8000000
namespace Go.Proofs.YtgcieamfidoaoaaGreatDoor
open Go.Proofs.Tryz
open Go.RowKit
theorem U.shape {w:World} {v:Value} {xs:List Nat} (h:U w v xs):∃ A c,v = .slice A xs.length c∧xs.length≤c:=by obtain ⟨A,c,rfl,hc,_⟩:=h;exact ⟨A,c,rfl,hc.1⟩
def cv (a b:List Nat):Nat→Nat→Nat
 | 0,_=>0
 | i+1,m=>cv a b i m+if i≤m then lb a i*lb b (m-i) else 0
theorem Qi {x y:Nat} (hx:x<4294967296) (hy:y<4294967296):x*y≤18446744065119617025:=Nat.mul_le_mul (show x≤4294967295 by omega) (show y≤4294967295 by omega)
def conv (a b:List Nat):List Nat:=(List.range (a.length+b.length-1)).map fun m=>cv a b a.length m
def fl:List Nat→List Nat
 | []=>[]
 | c::cs=>c%4294967296::c/4294967296%4294967296::c/18446744073709551616%4294967296::fl cs
def Own3 (w:World) (base:Nat) (v:Value) (cs:List Nat):Prop:=w.ownsRow base 160 3 v cs.length (tL (fl cs))
theorem Own3.block {w:World} {base g n c:Nat} {o:List Nat} (h:Own3 w base (.slice (some ⟨g,0,none⟩) n c) o):base≤g∧g<w.heap.size:=by have h0:w.ownsRow base 160 3 (.slice (some ⟨g,0,none⟩) n c) o.length (tL (fl o)):=h;exact h0.lt g rfl
def U3 (w:World) (v:Value) (cs:List Nat):Prop :=
 ∃ (A:Option Addr) (c:Nat),v = .slice A cs.length c∧(cs.length≤c∧cs.length≤9223372036854775807) ∧
  (0<cs.length→∃ ad,A=some ad∧ad.block<w.heap.size∧∀ j,j<cs.length*3→w.cell? (ad.add j)=some (.int .u32 (lb (fl cs) j:Nat)))
theorem U3.zZ (w:World) (A:Option Addr) (c:Nat):U3 w (.slice A 0 c) []:=⟨A,c,rfl,⟨Nat.zero_le _,Nat.zero_le _⟩,fun h=>absurd h (by simp)⟩
theorem ZE (a:Addr) (n:Nat) (h:n≠0):a.add n=⟨a.block,a.off+n,none⟩:=by unfold Addr.add;simp [h]
def val:List Nat→Nat
 | []=>0
 | x::xs=>x+4294967296*val xs
def limbs (n:Nat):List Nat:=if h:n=0 then [] else n%4294967296::limbs (n/4294967296)
termination_by n
decreasing_by exact Nat.div_lt_self (Nat.pos_of_ne_zero h) (by decide)
theorem bF:limbs 0=[]:=by rw [limbs];simp
theorem iG {n:Nat} (h:n≠0):limbs n=n%4294967296::limbs (n/4294967296):=by rw [limbs];simp [h]
theorem aM (n:Nat):val (limbs n)=n:=by
 induction n using Nat.strongRecOn with
 | _ n ih =>
  by_cases h:n=0
  · subst h;rw [bF];rfl
  · rw [iG h];have:=ih (n/4294967296) (Nat.div_lt_self (Nat.pos_of_ne_zero h) (by decide));simp only [val,this];omega
theorem lT (n:Nat):∀ x∈limbs n,x<4294967296:=by
 induction n using Nat.strongRecOn with
 | _ n ih =>
  by_cases h:n=0
  · subst h;rw [bF];simp
  · rw [iG h];intro x hx;rcases List.mem_cons.1 hx with rfl | hx
    · omega
    · exact ih (n/4294967296) (Nat.div_lt_self (Nat.pos_of_ne_zero h) (by decide)) x hx
theorem val_append (xs ys:List Nat):val (xs++ys)=val xs+4294967296^xs.length*val ys:=by
 induction xs with
 | nil=>simp [val]
 | cons x xs ih =>simp only [List.cons_append,val,ih,List.length_cons,Nat.pow_succ];rw [Nat.mul_add,Nat.add_assoc];congr 2;rw [← Nat.mul_assoc,Nat.mul_comm 4294967296]
theorem ru (xs:List Nat) (h:∀ x∈xs,x<4294967296):val xs<4294967296^xs.length:=by
 induction xs with
 | nil=>simp [val]
 | cons x xs ih =>
  have h1:=ih fun y hy=>h y (List.mem_cons_of_mem _ hy);have h2:=h x (List.mem_cons_self ..);simp only [val,List.length_cons,Nat.pow_succ];rw [Nat.mul_comm];have:val xs*4294967296+4294967296≤4294967296^xs.length*4294967296:=by have:=Nat.mul_le_mul_right 4294967296 (show val xs+1≤4294967296^xs.length from h1);rw [Nat.add_mul] at this;omega
  omega
theorem gF (k:Nat):val (List.replicate k 0)=0:=by
 induction k with
 | zero=>rfl
 | succ k ih=>simp [List.replicate_succ,val,ih]
theorem TC (xs:List Nat) (h:∀ x∈xs,x<4294967296) (hl:xs≠[]→xs[xs.length-1]?.getD 0≠0):limbs (val xs)=xs:=by
 induction xs with
 | nil=>rw [val,bF]
 | cons x xs ih =>
  have h2:=h x (List.mem_cons_self ..)
  have ih':=ih (fun y hy=>h y (List.mem_cons_of_mem _ hy)) (fun hne=>by
   have:=hl (by simp);cases xs with
   | nil=>exact absurd rfl hne
   | cons y ys=>simpa using this)
  have hne:val (x::xs)≠0:=by
   cases xs with
   | nil=>have:=hl (by simp);simp [val] at this ⊢;exact this
   | cons y ys =>intro h0;simp only [val] at h0;have:val (y::ys)=0:=(by simp only [val];omega);rw [this,bF] at ih';cases ih'
  rw [iG hne];have e1:val (x::xs)%4294967296=x:=by simp only [val];omega
  have e2:val (x::xs)/4294967296=val xs:=by simp only [val];omega
  rw [e1,e2,ih']
theorem Hg {n:Nat} (h:n≠0):(limbs n)[(limbs n).length-1]?.getD 0≠0:=by
 induction n using Nat.strongRecOn with
 | _ n ih =>
  rw [iG h];by_cases h2:n/4294967296=0
  · rw [h2,bF];simp;omega
  · have:=ih _ (Nat.div_lt_self (Nat.pos_of_ne_zero h) (by decide)) h2;rw [iG h2] at this ⊢;simpa using this
theorem zY {n:Nat}:limbs n=[]↔n=0:=by
 constructor
 · intro h;have:=aM n;rw [h] at this;exact this.symm
 · rintro rfl;exact bF
theorem TB {n m:Nat} (h:limbs n=limbs m):n=m:=by rw [← aM n,h,aM]
theorem ow (n:Nat):n<4294967296^(limbs n).length:=by have:=ru (limbs n) (lT n);rwa [aM] at this
theorem PG {n:Nat} (h:n≠0):4294967296^((limbs n).length-1)≤n:=by
 induction n using Nat.strongRecOn with
 | _ n ih =>
  rw [iG h];by_cases h2:n/4294967296=0
  · rw [h2,bF];simp;omega
  · have:=ih _ (Nat.div_lt_self (Nat.pos_of_ne_zero h) (by decide)) h2;have hl:0<(limbs (n/4294967296)).length:=(by rw [iG h2];simp);simp only [List.length_cons,Nat.add_sub_cancel];obtain ⟨k,hk⟩:∃ k,(limbs (n/4294967296)).length=k+1:=⟨_,(Nat.succ_pred_eq_of_pos hl).symm⟩;rw [hk] at this ⊢;simp only [Nat.add_sub_cancel] at this;rw [Nat.pow_succ];have:=Nat.mul_le_mul_right 4294967296 this;omega
theorem jC {n k:Nat} (h:n<4294967296^k):(limbs n).length≤k:=by
 by_cases h0:n=0
 · subst h0;rw [bF];simp
 · have:=PG h0;have h1:4294967296^((limbs n).length-1)<4294967296^k:=Nat.lt_of_le_of_lt this h;have:=(Nat.pow_lt_pow_iff_right (by decide:1<4294967296)).1 h1;omega
theorem iK {n m:Nat} (h:n≤m):(limbs n).length≤(limbs m).length :=
 jC (Nat.lt_of_le_of_lt h (ow m))
theorem ND (xs:List Nat) (k:Nat) (h:∀ j,k≤j→j<xs.length→xs[j]?.getD 0=0):val (xs.take k)=val xs:=by
 have e:xs=xs.take k++xs.drop k:=(List.take_append_drop k xs).symm
 have hz:val (xs.drop k)=0:=by
  have:xs.drop k=List.replicate (xs.drop k).length 0:=by apply List.ext_getElem (by simp);intro i h1 h2;have hi:k+i<xs.length:=(by simp at h1;omega);have:=h (k+i) (by omega) hi;simp [List.getElem?_eq_getElem hi] at this;simp [this]
  rw [this,gF]
 conv=>rhs;rw [e,val_append,hz]
 simp
theorem PI (xs:List Nat) (k:Nat) (hx:∀ x∈xs,x<4294967296) (hk:k≤xs.length) (h:∀ j,k≤j→j<xs.length→xs[j]?.getD 0=0) (hl:0<k→xs[k-1]?.getD 0≠0):limbs (val xs)=xs.take k:=by
 rw [← ND xs k h];apply TC
 · intro x hx';exact hx x (List.mem_of_mem_take hx')
 · intro hne
   have h0:0<k:=by
    rcases Nat.eq_zero_or_pos k with rfl | h0
    · simp at hne
    · exact h0
   have hlen:(xs.take k).length=k:=(by simp;omega);rw [hlen,List.getElem?_take,if_pos (by omega)];exact hl h0
theorem wF (xs:List Nat) (k:Nat) (hx:∀ x∈xs,x<4294967296) (hk:k≤xs.length) (h:∀ j,k≤j→j<xs.length→lb xs j=0) (hl:0<k→lb xs (k-1)≠0):limbs (val xs)=xs.take k:=PI xs k hx hk h hl
theorem qW (n j:Nat):lb (limbs n) j=n/4294967296^j%4294967296:=by
 unfold lb;induction j generalizing n with
 | zero =>
  by_cases h:n=0
  · subst h;rw [bF];simp
  · rw [iG h];simp
 | succ j ih =>
  by_cases h:n=0
  · subst h;rw [bF];simp
  · rw [iG h,Nat.pow_succ',← Nat.div_div_eq_div_mul,← ih];simp
def dA (x y:Int):Int:=if x<y then -1 else if y<x then 1 else 0
def rY (n:Nat) (i:Int):Nat:=if i<0 then 0 else n/2^i.toNat%2
theorem uO (o:List Nat) (j x:Nat) (h:j<o.length):val (o.set j x)+lb o j*4294967296^j=val o+x*4294967296^j:=by
 induction o generalizing j with
 | nil=>simp at h
 | cons y ys ih =>
  cases j with
  | zero=>simp [val,lb];omega
  | succ j =>have e:lb (y::ys) (j+1)=lb ys j:=(by simp [lb]);simp only [List.set_cons_succ,val,Nat.pow_succ];grind
theorem mD (xs:List Nat) (i:Nat) (h:i<xs.length):val (xs.take (i+1))=val (xs.take i)+lb xs i*4294967296^i:=by
 rw [List.take_succ_eq_append_getElem h,val_append];have e:lb xs i=xs[i]:=by simp [lb,h]
 have hl:(xs.take i).length=i:=by simp;omega
 simp only [val,hl,e,Nat.mul_zero,Nat.add_zero];grind
theorem Da (a b s:Nat) (ha:a<2^s):a|||b*2^s=a+b*2^s:=by have:=Nat.two_pow_add_eq_or_of_lt ha b;grind
theorem Ez (x s:Nat) (hs:s≤32):x*2^s%4294967296=x%2^(32-s)*2^s:=by
 have e:4294967296=2^(32-s)*2^s:=by rw [← Nat.pow_add,Nat.sub_add_cancel hs]
 rw [e,Nat.mul_mod_mul_right]
theorem NJ (x s:Nat) (hs:s≤32):x/2^(32-s)=x*2^s/4294967296:=by
 have e:4294967296=2^(32-s)*2^s:=by rw [← Nat.pow_add,Nat.sub_add_cancel hs]
 rw [e,Nat.mul_div_mul_right _ _ (Nat.two_pow_pos s)]
structure vQ (xs:List Nat) (q s L i:Nat) (o:List Nat):Prop where
 len:o.length=L
 lt:∀ x∈o,x<4294967296
 val_eq:val o=val (xs.take i)*(4294967296^q*2^s)
 low:lb o (q+i)<2^s
 rest:∀ j,q+i<j→lb o j=0
theorem vQ.start (xs:List Nat) (q s L:Nat):vQ xs q s L 0 (List.replicate L 0) :=
 ⟨by simp,fun x hx=>by rw [List.eq_of_mem_replicate hx];decide,by simp [val,gF],by rw [jL];exact Nat.two_pow_pos s,fun j _=>jL L j⟩
def Rn (o:List Nat) (x q s i:Nat):List Nat:=(o.set (q+i) (lb o (q+i)|||x*2^s%4294967296)).set (q+i+1) (x/2^(32-s))
theorem vQ.step {xs:List Nat} {q s L i:Nat} {o:List Nat} (h:vQ xs q s L i o) (hs:s<32) (hx:∀ x∈xs,x<4294967296) (hi:i<xs.length) (hL:L=q+xs.length+1) :vQ xs q s L (i+1) (Rn o (lb xs i) q s i):=by
 have hxi:=fD hx i;have ho:lb o (q+i)|||lb xs i*2^s%4294967296=lb o (q+i)+lb xs i*2^s%4294967296:=by rw [Ez _ _ (by omega)];exact Da _ _ _ h.low
 have hb:lb o (q+i)+lb xs i*2^s%4294967296<4294967296:=by have h1:=Ez (lb xs i) s (by omega);have h2:lb xs i%2^(32-s)+1≤2^(32-s):=Nat.mod_lt _ (Nat.two_pow_pos _);have h3:=Nat.mul_le_mul_right (2^s) h2;rw [← Nat.pow_add,Nat.sub_add_cancel (by omega),Nat.add_mul] at h3;have:=h.low;omega
 have hhi:lb xs i/2^(32-s)=lb xs i*2^s/4294967296:=NJ _ _ (by omega);have hlow:lb xs i*2^s/4294967296<2^s:=by rw [Nat.div_lt_iff_lt_mul (by decide),Nat.mul_comm (2^s)];exact Nat.mul_lt_mul_of_pos_right hxi (Nat.two_pow_pos s)
 have ahJ:2^s≤4294967296:=by have:=Nat.pow_le_pow_right (show 0<2 by decide) (show s≤32 by omega);simpa using this
 have e1:=uO o (q+i) (lb o (q+i)+lb xs i*2^s%4294967296) (by rw [h.len];omega);have e2:=uO (o.set (q+i) (lb o (q+i)+lb xs i*2^s%4294967296)) (q+i+1) (lb xs i*2^s/4294967296) (by simp [h.len];omega);rw [fH _ (by omega),h.rest (q+i+1) (by omega),Nat.zero_mul,Nat.add_zero] at e2;unfold Rn;rw [ho,hhi];refine ⟨by simp [h.len],ko (ko h.lt hb) (by omega),?_,?_,?_⟩
 · rw [e2,mD xs i hi,Nat.add_mul,← h.val_eq];have e3:lb xs i*4294967296^i*(4294967296^q*2^s)=(lb xs i*2^s)*4294967296^(q+i):=(by grind);rw [e3];have e4:lb xs i*2^s=lb xs i*2^s%4294967296+lb xs i*2^s/4294967296*4294967296:=(by omega);grind
 · rw [show q+(i+1)=q+i+1 by omega,pG _ (by simp [h.len];omega)];exact hlow
 · intro j hj;rw [fH _ (by omega),fH _ (by omega)];exact h.rest j (by omega)
theorem yM (q:Nat):4294967296^q=2^(32*q):=by rw [Nat.pow_mul]
theorem vQ.done {xs:List Nat} {k L:Nat} {o:List Nat} (h:vQ xs (k/32) (k%32) L xs.length o):val o=val xs*2^k:=by rw [h.val_eq,List.take_length,yM,← Nat.pow_add,Nat.div_add_mod]
theorem Lm (xs:List Nat) (q:Nat) (hx:∀ x∈xs,x<4294967296):val (xs.drop q)=val xs/4294967296^q:=by
 by_cases hq:q≤xs.length
 · have e:val xs=val (xs.take q)+4294967296^q*val (xs.drop q):=(by have h:=val_append (xs.take q) (xs.drop q);simp_all);have hlt:=ru (xs.take q) (fun x hx'=>hx x (List.mem_of_mem_take hx'));rw [List.length_take,Nat.min_eq_left hq] at hlt;rw [e,Nat.add_mul_div_left _ _ (Nat.pow_pos (by decide)),Nat.div_eq_of_lt hlt,Nat.zero_add]
 · rw [List.drop_eq_nil_of_le (by omega)];have:=ru xs hx;have h2:4294967296^xs.length≤4294967296^q:=Nat.pow_le_pow_right (by decide) (by omega);rw [Nat.div_eq_of_lt (by omega)];rfl
structure qi (ys:List Nat) (s L i:Nat) (o:List Nat):Prop where
 len:o.length=L
 lt:∀ x∈o,x<4294967296
 val_eq:val o=val (ys.take i)/2^s
 low:0<i→lb o (i-1)<2^(32-s)
 rest:∀ j,i≤j→lb o j=0
theorem qi.start (ys:List Nat) (s L:Nat):qi ys s L 0 (List.replicate L 0) :=
 ⟨by simp,fun x hx=>by rw [List.eq_of_mem_replicate hx];decide,by simp [val,gF],fun h=>absurd h (by omega),fun j _=>jL L j⟩
def NK (o:List Nat) (x s i:Nat):List Nat:=o.set i (x/2^s)
def Ro (o:List Nat) (x s i:Nat):List Nat:=(o.set i (x/2^s)).set (i-1) (lb o (i-1)|||x*2^(32-s)%4294967296)
theorem Rp (x s:Nat) (hx:x<4294967296) (hs:s≤32):x/2^s<2^(32-s):=by rw [Nat.div_lt_iff_lt_mul (Nat.two_pow_pos s),← Nat.pow_add,Nat.sub_add_cancel hs];exact hx
theorem qi.step0 {ys:List Nat} {s L:Nat} {o:List Nat} (h:qi ys s L 0 o) (hs:s<32) (hx:∀ x∈ys,x<4294967296) (hi:0<ys.length) (hL:L=ys.length) :qi ys s L 1 (NK o (lb ys 0) s 0):=by
 have hxi:=fD hx 0;have hle:lb ys 0/2^s≤lb ys 0:=Nat.div_le_self _ _;have e1:=uO o 0 (lb ys 0/2^s) (by rw [h.len];omega);rw [h.rest 0 (Nat.le_refl _),h.val_eq] at e1;unfold NK;refine ⟨by simp [h.len],ko h.lt (by omega),?_,fun _=>?_,fun j hj=>?_⟩
 · have:=mD ys 0 hi;simp only [List.take_zero,val,Nat.zero_div,Nat.zero_add,Nat.pow_zero,Nat.mul_one] at e1 this;grind
 · rw [pG _ (by rw [h.len];omega)];exact Rp _ _ hxi (by omega)
 · rw [fH _ (by omega)];exact h.rest j (by omega)
theorem qi.step {ys:List Nat} {s L i:Nat} {o:List Nat} (h:qi ys s L i o) (h0:0<i) (hs:s<32) (hx:∀ x∈ys,x<4294967296) (hi:i<ys.length) (hL:L=ys.length) :qi ys s L (i+1) (Ro o (lb ys i) s i):=by
 obtain ⟨i,rfl⟩:∃ j,i=j+1:=⟨i-1,by omega⟩;have hxi:=fD hx (i+1);have hle:lb ys (i+1)/2^s≤lb ys (i+1):=Nat.div_le_self _ _;have hlow:=h.low h0;rw [Nat.add_sub_cancel] at hlow;have ho:lb o i|||lb ys (i+1)*2^(32-s)%4294967296=lb o i+lb ys (i+1)*2^(32-s)%4294967296:=by rw [Ez _ _ (by omega)];exact Da _ _ _ hlow
 have hb:lb o i+lb ys (i+1)*2^(32-s)%4294967296<4294967296:=by have h1:=Ez (lb ys (i+1)) (32-s) (by omega);have h2:lb ys (i+1)%2^(32-(32-s))+1≤2^(32-(32-s)):=Nat.mod_lt _ (Nat.two_pow_pos _);have h3:=Nat.mul_le_mul_right (2^(32-s)) h2;rw [← Nat.pow_add,Nat.sub_add_cancel (by omega),Nat.add_mul] at h3;rw [h1];omega
 have e1:=uO o (i+1) (lb ys (i+1)/2^s) (by rw [h.len];omega);rw [h.rest (i+1) (Nat.le_refl _),Nat.zero_mul,Nat.add_zero] at e1;have e2:=uO (o.set (i+1) (lb ys (i+1)/2^s)) i (lb o i+lb ys (i+1)*2^(32-s)%4294967296) (by simp [h.len];omega);rw [fH _ (by omega)] at e2;unfold Ro;rw [Nat.add_sub_cancel,ho];refine ⟨by simp [h.len],ko (ko h.lt (by omega)) hb,?_,fun _=>?_,fun j hj=>?_⟩
 · have e3:=mD ys (i+1) hi;have e4:lb ys (i+1)*4294967296^(i+1)=lb ys (i+1)*2^(32-s)*4294967296^i*2^s:=(by have:(4294967296:Nat)=2^(32-s)*2^s:=(by rw [← Nat.pow_add,Nat.sub_add_cancel (by omega)]);grind);rw [e3,e4,Nat.add_mul_div_right _ _ (Nat.two_pow_pos s),← h.val_eq];have e5:lb ys (i+1)/2^s=lb ys (i+1)*2^(32-s)/4294967296:=(by have:=NJ (lb ys (i+1)) (32-s) (by omega);grind);have e7:lb ys (i+1)*2^(32-s)=lb ys (i+1)*2^(32-s)%4294967296+lb ys (i+1)/2^s*4294967296:=(by rw [e5];omega);grind
 · rw [Nat.add_sub_cancel,fH _ (by omega),pG _ (by rw [h.len];omega)];exact Rp _ _ hxi (by omega)
 · rw [fH _ (by omega),fH _ (by omega)];exact h.rest j (by omega)
theorem qi.done {xs:List Nat} {k L i:Nat} {o:List Nat} (hx:∀ x∈xs,x<4294967296) (h:qi (xs.drop (k/32)) (k%32) L i o) (hi:i=(xs.drop (k/32)).length):val o=val xs/2^k:=by subst hi;rw [h.val_eq,List.take_length,Lm _ _ hx,yM,Nat.div_div_eq_div_mul,← Nat.pow_add,Nat.div_add_mod]
theorem Hl (n k:Nat):lb (limbs n) (k/32)/2^(k%32)%2=n/2^k%2:=by
 rw [qW,yM];generalize hm:n/2^(32*(k/32))=m;have e:(4294967296:Nat)=2^(k%32)*2^(32-k%32):=by rw [← Nat.pow_add,show k%32+(32-k%32)=32 by omega]
 rw [e,Nat.mod_mul_right_div_self,Nat.mod_mod_of_dvd _ ⟨2^(32-k%32-1),by rw [← Nat.pow_succ',show (32-k%32-1).succ=32-k%32 by omega]⟩,← hm,Nat.div_div_eq_div_mul,← Nat.pow_add,Nat.div_add_mod]
theorem Rt (n k:Nat) (h:(limbs n).length≤k/32):n/2^k%2=0:=by rw [← Hl,qV h,Nat.zero_div]
theorem zC (n:Nat) (h:n≠0):dI n=32*((limbs n).length-1)+dI (lb (limbs n) ((limbs n).length-1)):=by
 have hl:=Hg h
 have e:lb (limbs n) ((limbs n).length-1)=n/2^(32*((limbs n).length-1)):=by
  rw [qW,← yM];apply Nat.mod_eq_of_lt;have:=ow n;have hp:0<(limbs n).length:=by rw [iG h];simp
  rw [Nat.div_lt_iff_lt_mul (Nat.pow_pos (by decide)),← Nat.pow_succ',show ((limbs n).length-1).succ=(limbs n).length by omega];exact this
 rw [e];apply mV;rw [← e];exact hl
def Gi (n:Nat):Nat:=if n<18446744073709551616 then n else 0
def Bw (n:Nat):Bool:=decide (n<18446744073709551616)
theorem dS {n k:Nat} (h:(limbs n).length≤k):n<4294967296^k :=
 Nat.lt_of_lt_of_le (ow n) (Nat.pow_le_pow_right (by decide) h)
theorem qB {n k:Nat} (h:k<(limbs n).length):4294967296^k≤n:=by
 rcases Nat.lt_or_ge n (4294967296^k) with h1 | h1
 · have:=jC h1;omega
 · exact h1
theorem PK {n:Nat} (h:(limbs n).length≤2):Bw n=true:=by have:=dS h;exact decide_eq_true (by omega)
theorem PL {n:Nat} (h:(limbs n).length≤2):Gi n=n:=by have:=dS h;exact if_pos (by omega)
theorem PM {n:Nat} (h:2<(limbs n).length):Bw n=false:=by have:=qB h;exact decide_eq_false (by omega)
theorem PN {n:Nat} (h:2<(limbs n).length):Gi n=0:=by have:=qB h;exact if_neg (by omega)
theorem aaJ {xs:List Nat} (q:Nat) (hx:∀ x∈xs,x<4294967296):∀ x∈xs.drop q,x<4294967296:=by grind
def uM (L k:Nat):List Nat:=(List.range k).map fun j=>L-1-j
theorem zI (L k:Nat):uM L (k+1)=uM L k++[L-1-k]:=by simp [uM,List.range_succ]
theorem KU (L k:Nat):(uM L k).length=k:=by simp [uM]
theorem Jq {L k j:Nat} (hk:k≤L):j∈uM L k↔L-k≤j∧j<L:=by
 simp only [uM,List.mem_map,List.mem_range];constructor
 · rintro ⟨i,hi,rfl⟩;omega
 · intro h;exact ⟨L-1-j,by omega,by omega⟩
theorem tH {xs ys:List Nat} (hl:xs.length=ys.length) (hx:∀ x∈xs,x<4294967296) (hy:∀ x∈ys,x<4294967296) (p:Nat) (hp:p<xs.length) (ht:∀ j,p<j→j<xs.length→lb xs j=lb ys j) (hlt:lb xs p<lb ys p):val xs<val ys:=by
 induction xs generalizing ys p with
 | nil=>simp at hp
 | cons x xs ih =>
  cases ys with
  | nil=>simp at hl
  | cons y ys =>
   have e:∀ (a:Nat) (l:List Nat) j,lb (a::l) (j+1)=lb l j:=fun a l j=>by simp [lb]
   have hl':xs.length=ys.length:=(by simpa using hl);have h1:=hx x (List.mem_cons_self ..);have h2:=hy y (List.mem_cons_self ..);simp only [val];cases p with
   | zero =>
    have:xs=ys:=ww hl' fun j hj=>by have:=ht (j+1) (by omega) (by simpa using hj);rwa [e,e] at this
    subst this;have h3:lb (x::xs) 0=x:=(by simp [lb]);have h4:lb (y::xs) 0=y:=(by simp [lb]);omega
   | succ p =>
    rw [e,e] at hlt
    have:=ih hl' (fun z hz=>hx z (List.mem_cons_of_mem _ hz)) (fun z hz=>hy z (List.mem_cons_of_mem _ hz)) p (by simpa using hp)
     (fun j h3 h4=>by
      have:=ht (j+1) (by omega) (by simpa using h4);rwa [e,e] at this) hlt
    omega
theorem lU {x y:Int} (h:x<y):dA x y = -1:=if_pos h
theorem mF {x y:Int} (h:y<x):dA x y=1:=by rw [dA,if_neg (by omega),if_pos h]
theorem qD (x:Int):dA x x=0:=by rw [dA,if_neg (by omega),if_neg (by omega)]
theorem BS {n m:Nat} (h:(limbs n).length<(limbs m).length):n<m:=by have h1:=ow n;have h2:=qB h;omega
theorem XT {n m:Nat} (h:(limbs n).length≠(limbs m).length):dA (limbs n).length (limbs m).length=dA n m:=by
 rcases Nat.lt_or_gt_of_ne h with h | h
 · have:=BS h;rw [lU (by omega),lU (by omega)]
 · have:=BS h;rw [mF (by omega),mF (by omega)]
theorem XU {n m p:Nat} (hl:(limbs n).length=(limbs m).length) (hp:p<(limbs n).length) (ht:∀ j,p<j→j<(limbs n).length→lb (limbs n) j=lb (limbs m) j) (hne:lb (limbs n) p≠lb (limbs m) p):dA (lb (limbs n) p) (lb (limbs m) p)=dA n m:=by
 rcases Nat.lt_or_gt_of_ne hne with h | h
 · have:=tH hl (lT n) (lT m) p hp ht h;rw [aM,aM] at this;rw [lU (by omega),lU (by omega)]
 · have:=tH hl.symm (lT m) (lT n) p (by omega) (fun j h1 h2=>(ht j h1 (by omega)).symm) h;rw [aM,aM] at this;rw [mF (by omega),mF (by omega)]
def bI:List Nat→Nat
 | []=>0
 | x::xs=>x+18446744073709551616*bI xs
def BB:Nat:=18446744073709551616
theorem kW (xs ys:List Nat):bI (xs++ys)=bI xs+BB^xs.length*bI ys:=by
 induction xs with
 | nil=>simp [bI]
 | cons x xs ih =>simp only [List.cons_append,bI,ih,List.length_cons,Nat.pow_succ];rw [Nat.mul_add,Nat.add_assoc];congr 2;rw [← Nat.mul_assoc,Nat.mul_comm 18446744073709551616];rfl
theorem yY (xs:List Nat) (h:∀ x∈xs,x<18446744073709551616):bI xs<BB^xs.length:=by
 induction xs with
 | nil=>simp [bI]
 | cons x xs ih =>
  have h1:=ih fun y hy=>h y (List.mem_cons_of_mem _ hy);have h2:=h x (List.mem_cons_self ..);simp only [bI,List.length_cons,Nat.pow_succ];have:bI xs*18446744073709551616+18446744073709551616≤BB^xs.length*BB:=by have:=Nat.mul_le_mul_right 18446744073709551616 (show bI xs+1≤BB^xs.length from h1);rw [Nat.add_mul] at this;show _≤BB^xs.length*18446744073709551616;omega
  omega
theorem mZ (n:Nat):bI (List.replicate n 0)=0:=by
 induction n with
 | zero=>rfl
 | succ n ih=>rw [List.replicate_succ,bI,ih]
theorem qA (o:List Nat) (i x:Nat) (h:i<o.length):bI (o.set i x)+BB^i*lb o i=bI o+BB^i*x:=by
 induction o generalizing i with
 | nil=>simp at h
 | cons y ys ih =>
  cases i with
  | zero =>simp only [List.set_cons_zero,bI,Nat.pow_zero,Nat.one_mul];have:lb (y::ys) 0=y:=rfl;omega
  | succ i =>have:=ih i (by simpa using h);simp only [List.set_cons_succ,bI];have e:lb (y::ys) (i+1)=lb ys i:=(by simp [lb]);rw [e,Nat.pow_succ,Nat.mul_comm (BB^i) BB];have h2:BB*(bI (ys.set i x)+BB^i*lb ys i)=BB*(bI ys+BB^i*x):=(by rw [this]);rw [Nat.mul_add,Nat.mul_add,← Nat.mul_assoc,← Nat.mul_assoc] at h2;show y+BB*_+_=y+BB*_+_;omega
theorem iZ (xs:List Nat) (k:Nat) (h:k<xs.length):bI (xs.take (k+1))=bI (xs.take k)+BB^k*lb xs k:=by
 have e:xs.take (k+1)=xs.take k++[lb xs k]:=by rw [List.take_add_one,List.getElem?_eq_getElem h];unfold lb;rw [List.getElem?_eq_getElem h];rfl
 rw [e,kW,List.length_take,Nat.min_eq_left (by omega)];simp [bI]
theorem oQ (xs:List Nat) (k:Nat) (h:k≤xs.length):bI xs=bI (xs.take k)+BB^k*bI (xs.drop k):=by
 conv=>lhs;rw [← List.take_append_drop k xs]
 rw [kW,List.length_take,Nat.min_eq_left h]
def kQ:List Nat→List Nat
 | []=>[]
 | [x]=>[x]
 | x::y::r=>(x+4294967296*y)::kQ r
theorem ni:∀ xs:List Nat,(kQ xs).length=(xs.length+1)/2
 | []=>rfl
 | [x]=>by simp [kQ]
 | x::y::r=>by rw [kQ,List.length_cons,ni r];simp only [List.length_cons];omega
theorem qL:∀ xs:List Nat,bI (kQ xs)=val xs
 | []=>rfl
 | [x]=>rfl
 | x::y::r=>by rw [kQ,bI,qL r];simp only [val];omega
theorem zS:∀ (xs:List Nat) (i:Nat),lb (kQ xs) i=lb xs (2*i)+4294967296*lb xs (2*i+1)
 | [],i=>by simp [kQ,lb]
 | [x],i=>by
  cases i with
  | zero=>simp [kQ,lb]
  | succ i=>rw [show 2*(i+1)=(2*i+1)+1 by omega];simp [kQ,lb]
 | x::y::r,i=>by
  cases i with
  | zero=>simp [kQ,lb]
  | succ i =>have:=zS r i;have e1:lb (kQ (x::y::r)) (i+1)=lb (kQ r) i:=(by simp [kQ,lb]);have e2:lb (x::y::r) (2*(i+1))=lb r (2*i):=(by rw [show 2*(i+1)=2*i+1+1 by omega];simp [lb]);have e3:lb (x::y::r) (2*(i+1)+1)=lb r (2*i+1):=(by rw [show 2*(i+1)+1=2*i+1+1+1 by omega];simp [lb]);rw [e1,e2,e3,this]
theorem wy (xs:List Nat) (h:∀ x∈xs,x<4294967296):∀ x∈kQ xs,x<18446744073709551616:=by refine Sy fun j hj=>?_;rw [zS];have h1:=fD h (2*j);have h2:=fD h (2*j+1);omega
def iD:List Nat→List Nat
 | []=>[]
 | x::r=>x%4294967296::x/4294967296::iD r
theorem De (ws:List Nat):(iD ws).length=2*ws.length:=by
 induction ws with
 | nil=>rfl
 | cons x r ih=>simp only [iD,List.length_cons,ih];omega
theorem Df (ws:List Nat):val (iD ws)=bI ws:=by
 induction ws with
 | nil=>rfl
 | cons x r ih=>simp only [iD,val,bI,ih];omega
theorem EE (ws:List Nat) (h:∀ x∈ws,x<18446744073709551616):∀ x∈iD ws,x<4294967296:=by
 induction ws with
 | nil=>intro x hx;simp [iD] at hx
 | cons y r ih =>
  intro x hx;have h0:=h y (List.mem_cons_self ..);simp only [iD,List.mem_cons] at hx;rcases hx with rfl | rfl | hx
  · omega
  · omega
  · exact ih (fun z hz=>h z (List.mem_cons_of_mem _ hz)) x hx
theorem Pm (ws:List Nat) (i:Nat):lb (iD ws) (2*i)=lb ws i%4294967296∧lb (iD ws) (2*i+1)=lb ws i/4294967296:=by
 induction ws generalizing i with
 | nil=>simp [iD,lb]
 | cons x r ih =>
  cases i with
  | zero=>simp [iD,lb]
  | succ i =>have:=ih i;have e1:lb (iD (x::r)) (2*(i+1))=lb (iD r) (2*i):=(by rw [show 2*(i+1)=2*i+1+1 by omega];simp [iD,lb]);have e2:lb (iD (x::r)) (2*(i+1)+1)=lb (iD r) (2*i+1):=(by rw [show 2*(i+1)+1=2*i+1+1+1 by omega];simp [iD,lb]);have e3:lb (x::r) (i+1)=lb r i:=(by simp [lb]);rw [e1,e2,e3];exact this
theorem Jo (P S S' x y c d A v:Nat) (hset:S'+P*x=S+P*v) (hinv:S+P*c=A) (hd:x+y+c=v+BB*d):S'+P*BB*d=A+P*y:=by
 have h1:P*(x+y+c)=P*(v+BB*d):=by rw [hd]
 rw [Nat.mul_add,Nat.mul_add,Nat.mul_add,← Nat.mul_assoc] at h1;omega
theorem Iw (P S S' x y c d A T v:Nat) (hset:S'+P*x=S+P*v) (hinv:S+T=A+P*c) (hd:x+BB*d=v+y+c):S'+(T+P*y)=A+P*BB*d:=by
 have h1:P*(x+BB*d)=P*(v+y+c):=by rw [hd]
 rw [Nat.mul_add,Nat.mul_add,Nat.mul_add,← Nat.mul_assoc] at h1;omega
section
open Go.ChangeShapes Go.WideShapes Go.ChangeAt
set_option maxRecDepth 100000
theorem own:ownKnob prog.godebug=none:=by kernel_rfl
theorem Zw:prog.cellsOf 57 = 1:=by kernel_rfl
end
section
open Go.ChangeShapes Go.WideShapes Go.ChangeAt
theorem xI {H:Type} {enc:TypeId × Value→H} {W:World} {fuel:Nat} {v:Value} {y:DataW H × List MemPlace} (hf:DataW.trod enc prog W 0 (fun _=>true) true fuel 24 [v]=some y) :∃ xs:List Nat,U W v xs:=by
 rcases open_ints underlying24 underlying57 Zw hf with ⟨hcs,hx⟩ | ⟨a,len,cap',zs,hcs,_,hl,hm,hz,hx,hcell,hwz⟩
 · simp at hcs;subst hcs;exact ⟨[],U.zZ _ _ _⟩
 · simp at hcs;subst hcs;simp only [if_true] at hz;have hlen:((zs.take len).map Int.toNat).length=len:=(by simp;omega);have hb:∀ z∈zs,0≤z∧z<4294967296:=fun z hzz=>by have:=bounds_u32 (hwz z hzz);omega
   refine ⟨(zs.take len).map Int.toNat,some a,cap',by rw [hlen],⟨by rw [hlen];exact hl,by rw [hlen];unfold maxLen at hm;omega⟩,?_,fun h0=>⟨a,rfl,?_,fun j hj=>?_⟩⟩
   · intro x hx';obtain ⟨z,hz1,rfl⟩:=List.mem_map.1 hx';have:=hb z (List.mem_of_mem_take hz1);omega
   · rw [hlen] at h0;have hc:=hcell 0 (by omega);rw [lF] at hc;unfold World.cell? at hc;rcases Nat.lt_or_ge a.block W.heap.size with h | h
     · exact h
     · rw [Array.getElem?_eq_none h] at hc;cases hc
   · rw [hlen] at hj;have hjz:j<zs.length:=(by omega);have e:lb ((zs.take len).map Int.toNat) j=(zs.getD j 0).toNat:=(by simp [lb,hj,hjz]);rw [hcell j hjz,e];have hmem:zs.getD j 0∈zs:=(by simp [hjz]);have:=hb _ hmem;rw [show (((zs.getD j 0).toNat:Nat):Int)=zs.getD j 0 by omega]
end
theorem wz (x y:Nat) (hx:x<18446744073709551616) (hy:y<18446744073709551616) (w:World) :Calls prog 191 #[.int .u64 x,.int .u64 y] w fun e w'=>e = .returned (.tuple #[.int .u64 ((x*y/18446744073709551616:Nat):Int),.int .u64 ((x*y%18446744073709551616:Nat):Int)])∧w'=w:=by
 obtain ⟨bd,bt,bw,hhi⟩:=Lib.mul64_hi x y hx hy;have ba:=Lib.half_mul_le (a:=x/4294967296) (b:=y/4294967296) (by omega) (by omega);have bb:=Lib.half_mul_le (a:=x/4294967296) (b:=y%4294967296) (by omega) (by omega);have bc:=Lib.half_mul_le (a:=x%4294967296) (b:=y/4294967296) (by omega) (by omega);have ba':x/4294967296*(y/4294967296)<18446744073709551616:=by omega
 have bb':x/4294967296*(y%4294967296)<18446744073709551616:=by omega
 have bc':x%4294967296*(y/4294967296)<18446744073709551616:=by omega
 have bh1:x/4294967296*(y/4294967296)+(x/4294967296*(y%4294967296)+x%4294967296*(y%4294967296)/4294967296)/4294967296<18446744073709551616:=by omega
 have bh:x/4294967296*(y/4294967296)+(x/4294967296*(y%4294967296)+x%4294967296*(y%4294967296)/4294967296)/4294967296+((x/4294967296*(y%4294967296)+x%4294967296*(y%4294967296)/4294967296)%4294967296+x%4294967296*(y/4294967296))/4294967296<18446744073709551616:=by omega
 go_enter func191,ntmps191;go_wp2;simp only [Mul64.maskN x hx,Mul64.maskN y hy,Mul64.divN,Mul64.mulN,Mul64.addN,Mul64.wrapN _ bd,Mul64.wrapN _ bb',Mul64.wrapN _ bt,Mul64.maskN _ bt,Mul64.wrapN _ bc',Mul64.wrapN _ bw,Mul64.wrapN _ ba',Mul64.wrapN _ bh1,Mul64.wrapN _ bh,Mul64.wrapM (x*y)];rw [hhi];go_ret2;exact ⟨rfl,rfl⟩
def Un (w:World) (v:Value) (n:Nat):Prop:=U w v (limbs n)
theorem Un.below {w w':World} {v:Value} {n:Nat} (h:Un w v n) (hb:Below w.heap.size w w'):Un w' v n:=U.below h hb
set_option maxRecDepth 100000
def gX (xs:List Nat):Bool:=decide (xs.length≤65536)&&(xs.isEmpty||lb xs (xs.length-1) != 0)
theorem bne_cast (a:Nat):(((a:Nat):Int) != 0)=(a != 0):=by rw [Bool.eq_iff_iff,bne_iff_ne,bne_iff_ne];omega
theorem NI (w:World) (v:Value) (xs:List Nat) (h:U w v xs) :Calls prog 43 #[v] w fun e w'=>e = .returned (.bool (gX xs))∧w=w':=by
 obtain ⟨A,c,rfl,⟨hc,hm⟩,hx,hr⟩:=h;by_cases hlen:xs.length≤65536
 · rcases Nat.eq_zero_or_pos xs.length with h0 | h0
   · obtain rfl:=List.eq_nil_of_length_eq_zero h0;go_enter func43,ntmps43;go_wp2;go_ret;exact ⟨rfl,rfl⟩
   · obtain ⟨ad,rfl,hb,hcell⟩:=hr h0;have hc1:=hcell (xs.length-1) (by omega);have hne:(((xs.length:Nat):Int)==0)=false:=(by rw [beq_eq_false_iff_ne];omega);have hres:gX xs=(lb xs (xs.length-1) != 0):=(by unfold gX;have:xs.isEmpty=false:=(by cases xs<;>simp_all);simp [hlen,this]);have HR:=Lib.hid hres;clear hres;go_enter func43,ntmps43;go_wp2;go_ret;exact ⟨by rw [HR.out,← bne_cast];rfl,rfl⟩
 · have hres:gX xs=false:=(by unfold gX;simp [hlen]);have HR:=Lib.hid hres;clear hres;go_enter func43,ntmps43;go_wp2;go_ret;exact ⟨by rw [HR.out];rfl,rfl⟩
theorem mY (w:World) (v:Value) (xs:List Nat) (h:U w v xs) :Calls prog 92 #[v] w fun e w'=>(∃ u,e = .returned u∧U w u (limbs (val xs)))∧w=w':=by
 have h':=h;obtain ⟨A,c,rfl,⟨hc,hm⟩,hx,hr⟩:=h;go_enter func92,ntmps92;go_wp2;go_loop [3] (fun n=>∃ k:Nat,k≤xs.length∧n = .int .i64 k∧Hid (∀ j,k≤j→j<xs.length→lb xs j=0)) (fun n=>(intOf n).toNat);case atStart=>exact ⟨xs.length,Nat.le_refl _,rfl,fun j h1 h2=>by omega⟩
 case round =>
  obtain ⟨k,hk,rfl,hz⟩:=hrel;have hfin:∀ c',k≤c'→(0<k→lb xs (k-1)≠0)→U w (.slice A k c') (limbs (val xs)):=fun c' h1 h2=>by rw [wF xs k hx hk hz.out h2];exact h'.take hk h1
  rcases Nat.eq_zero_or_pos k with rfl | h0
  · have HF:=Lib.hid (hfin 0 (Nat.le_refl _) (fun h=>absurd h (by omega)));clear hfin;go_wp2;go_ways;go_ret;exact ⟨⟨_,rfl,HF.out⟩,rfl⟩
  · obtain ⟨ad,rfl,hb,hcell⟩:=hr (by omega);have hc1:=hcell (k-1) (by omega);by_cases hx0:lb xs (k-1)=0
    · have ht:((((lb xs (k-1):Nat)):Int)==0)=true:=(by rw [hx0];rfl);have HX:=Lib.hid hx0;clear hx0;go_wp2;go_round
      case rel=>exact ⟨k-1,by omega,by go_num,fun j h1 h2=>by
       rcases Nat.lt_or_ge j k with h3 | h3
       · have:j=k-1:=(by omega);subst this;exact HX.out
       · exact hz.out j h3 h2⟩
      case measure=>simp [intOf];omega
    · have ht:((((lb xs (k-1):Nat)):Int)==0)=false:=(by rw [beq_eq_false_iff_ne];omega);have HF:=Lib.hid (hfin k (Nat.le_refl _) (fun _=>hx0));clear hfin hx0;go_wp2;go_ret;exact ⟨⟨_,rfl,HF.out⟩,rfl⟩
section
open Go Go.RowKit
abbrev A0i (f:FuncId) (a:Array Value) (w:World) (a0:Nat):=Calls Tryz.prog f a w fun e w'=>∃ u,e = .returned u∧Un w' u a0∧Pl.aS w w'
abbrev A0l (f:FuncId) (a:Array Value) (w:World) (a0:Nat):=Calls Tryz.prog f a w fun e w'=>∃ u,e = .returned u∧Un w' u a0∧Ext w w'
