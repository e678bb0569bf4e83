/- Limbs to the base 2^32 and the numbers that they are: plain lists and naturals. -/
import Derived.Test.YtdpmbgomcjnohaaGreatDoorBad
import Derived.Test.YtdpmbgomcjnohaaGreatDoorBac

namespace Go.Proofs.YtdpmbgomcjnohaaGreatDoor
def val:List Nat→Nat
 | []=>0
 | x::xs=>x+4294967296*val xs
def limbs (n:Nat):List Nat:=if h:n=0 then [] else n%4294967296::limbs (n/4294967296)
termination_by n
decreasing_by exact Nat.div_lt_self (Nat.pos_of_ne_zero h) (by decide)
theorem aX:limbs 0=[]:=by rw [limbs];simp
theorem d9 {n:Nat} (h:n≠0):limbs n=n%4294967296::limbs (n/4294967296):=by rw [limbs];simp [h]
theorem aH (n:Nat):val (limbs n)=n:=by
 induction n using Nat.strongRecOn with
 | _ n ih =>
  by_cases h:n=0
  · subst h;rw [aX];rfl
  · rw [d9 h]
    have:=ih (n/4294967296) (Nat.div_lt_self (Nat.pos_of_ne_zero h) (by decide))
    simp only [val,this]
    omega
theorem qo (n:Nat):∀ x∈limbs n,x<4294967296:=by
 induction n using Nat.strongRecOn with
 | _ n ih =>
  by_cases h:n=0
  · subst h;rw [aX];simp
  · rw [d9 h]
    intro x hx
    rcases List.mem_cons.1 hx with rfl | hx
    · omega
    · exact ih (n/4294967296) (Nat.div_lt_self (Nat.pos_of_ne_zero h) (by decide)) x hx
theorem val_append (xs ys:List Nat):val (xs++ys)=val xs+4294967296^xs.length*val ys:=by
 induction xs with
 | nil=>simp [val]
 | cons x xs ih =>
  simp only [List.cons_append,val,ih,List.length_cons,Nat.pow_succ]
  rw [Nat.mul_add,Nat.add_assoc]
  congr 2
  rw [← Nat.mul_assoc,Nat.mul_comm 4294967296]
theorem sK (xs:List Nat) (h:∀ x∈xs,x<4294967296):val xs<4294967296^xs.length:=by
 induction xs with
 | nil=>simp [val]
 | cons x xs ih =>
  have h1:=ih fun y hy=>h y (List.mem_cons_of_mem _ hy)
  have h2:=h x (List.mem_cons_self ..)
  simp only [val,List.length_cons,Nat.pow_succ]
  rw [Nat.mul_comm]
  have:val xs*4294967296+4294967296≤4294967296^xs.length*4294967296:=by
   have:=Nat.mul_le_mul_right 4294967296 (show val xs+1≤4294967296^xs.length from h1)
   rw [Nat.add_mul] at this
   omega
  omega
theorem dG (k:Nat):val (List.replicate k 0)=0:=by
 induction k with
 | zero=>rfl
 | succ k ih=>simp [List.replicate_succ,val,ih]
theorem yI (xs:List Nat) (h:∀ x∈xs,x<4294967296) (hl:xs≠[]→xs[xs.length-1]?.getD 0≠0):limbs (val xs)=xs:=by
 induction xs with
 | nil=>rw [val,aX]
 | cons x xs ih =>
  have h2:=h x (List.mem_cons_self ..)
  have ih':=ih (fun y hy=>h y (List.mem_cons_of_mem _ hy)) (fun hne=>by
   have:=hl (by simp)
   cases xs with
   | nil=>exact absurd rfl hne
   | cons y ys=>simpa using this)
  have hne:val (x::xs)≠0:=by
   cases xs with
   | nil=>have:=hl (by simp);simp [val] at this ⊢;exact this
   | cons y ys =>
    intro h0
    simp only [val] at h0
    have:val (y::ys)=0:=by simp only [val];omega
    rw [this,aX] at ih'
    cases ih'
  rw [d9 hne]
  have e1:val (x::xs)%4294967296=x:=by simp only [val];omega
  have e2:val (x::xs)/4294967296=val xs:=by simp only [val];omega
  rw [e1,e2,ih']
theorem CJ {n:Nat} (h:n≠0):(limbs n)[(limbs n).length-1]?.getD 0≠0:=by
 induction n using Nat.strongRecOn with
 | _ n ih =>
  rw [d9 h]
  by_cases h2:n/4294967296=0
  · rw [h2,aX]
    simp;omega
  · have:=ih _ (Nat.div_lt_self (Nat.pos_of_ne_zero h) (by decide)) h2
    rw [d9 h2] at this ⊢
    simpa using this
theorem wK {n:Nat}:limbs n=[]↔n=0:=by
 constructor
 · intro h
   have:=aH n
   rw [h] at this
   exact this.symm
 · rintro rfl;exact aX
theorem Oo {n m:Nat} (h:limbs n=limbs m):n=m:=by rw [← aH n,h,aH]
theorem jw (n:Nat):n<4294967296^(limbs n).length:=by
 have:=sK (limbs n) (qo n)
 rwa [aH] at this
theorem Lp {n:Nat} (h:n≠0):4294967296^((limbs n).length-1)≤n:=by
 induction n using Nat.strongRecOn with
 | _ n ih =>
  rw [d9 h]
  by_cases h2:n/4294967296=0
  · rw [h2,aX]
    simp;omega
  · have:=ih _ (Nat.div_lt_self (Nat.pos_of_ne_zero h) (by decide)) h2
    have hl:0<(limbs (n/4294967296)).length:=by
     rw [d9 h2];simp
    simp only [List.length_cons,Nat.add_sub_cancel]
    obtain ⟨k,hk⟩:∃ k,(limbs (n/4294967296)).length=k+1:=⟨_,(Nat.succ_pred_eq_of_pos hl).symm⟩
    rw [hk] at this ⊢
    simp only [Nat.add_sub_cancel] at this
    rw [Nat.pow_succ]
    have:=Nat.mul_le_mul_right 4294967296 this
    omega
theorem je {n k:Nat} (h:n<4294967296^k):(limbs n).length≤k:=by
 by_cases h0:n=0
 · subst h0;rw [aX];simp
 · have:=Lp h0
   have h1:4294967296^((limbs n).length-1)<4294967296^k:=Nat.lt_of_le_of_lt this h
   have:=(Nat.pow_lt_pow_iff_right (by decide:1<4294967296)).1 h1
   omega
theorem fC {n m:Nat} (h:n≤m):(limbs n).length≤(limbs m).length :=
 je (Nat.lt_of_le_of_lt h (jw m))
theorem Jg (xs:List Nat) (k:Nat) (h:∀ j,k≤j→j<xs.length→xs[j]?.getD 0=0):val (xs.take k)=val xs:=by
 have e:xs=xs.take k++xs.drop k:=(List.take_append_drop k xs).symm
 have hz:val (xs.drop k)=0:=by
  have:xs.drop k=List.replicate (xs.drop k).length 0:=by
   apply List.ext_getElem (by simp)
   intro i h1 h2
   have hi:k+i<xs.length:=by simp at h1;omega
   have:=h (k+i) (by omega) hi
   simp [List.getElem?_eq_getElem hi] at this
   simp [this]
  rw [this,dG]
 conv=>rhs;rw [e,val_append,hz]
 simp
theorem Lr (xs:List Nat) (k:Nat) (hx:∀ x∈xs,x<4294967296) (hk:k≤xs.length) (h:∀ j,k≤j→j<xs.length→xs[j]?.getD 0=0)
  (hl:0<k→xs[k-1]?.getD 0≠0):limbs (val xs)=xs.take k:=by
 rw [← Jg xs k h]
 apply yI
 · intro x hx';exact hx x (List.mem_of_mem_take hx')
 · intro hne
   have h0:0<k:=by
    rcases Nat.eq_zero_or_pos k with rfl | h0
    · simp at hne
    · exact h0
   have hlen:(xs.take k).length=k:=by simp;omega
   rw [hlen,List.getElem?_take,if_pos (by omega)]
   exact hl h0
theorem wL (xs:List Nat) (k:Nat) (hx:∀ x∈xs,x<4294967296) (hk:k≤xs.length) (h:∀ j,k≤j→j<xs.length→lb xs j=0)
 (hl:0<k→lb xs (k-1)≠0):limbs (val xs)=xs.take k:=Lr xs k hx hk h hl
theorem nQ (n j:Nat):lb (limbs n) j=n/4294967296^j%4294967296:=by
 unfold lb
 induction j generalizing n with
 | zero =>
  by_cases h:n=0
  · subst h;rw [aX];simp
  · rw [d9 h];simp
 | succ j ih =>
  by_cases h:n=0
  · subst h;rw [aX];simp
  · rw [d9 h,Nat.pow_succ',← Nat.div_div_eq_div_mul,← ih]
    simp
def bZ (x y:Int):Int:=if x<y then -1 else if y<x then 1 else 0
def pG (n:Nat) (i:Int):Nat:=if i<0 then 0 else n/2^i.toNat%2
end Go.Proofs.YtdpmbgomcjnohaaGreatDoor
/- Shifts, limb by limb: plain lists and naturals. -/
namespace Go.Proofs.YtdpmbgomcjnohaaGreatDoor
theorem qD (o:List Nat) (j x:Nat) (h:j<o.length):val (o.set j x)+lb o j*4294967296^j=val o+x*4294967296^j:=by
 induction o generalizing j with
 | nil=>simp at h
 | cons y ys ih =>
  cases j with
  | zero=>simp [val,lb];omega
  | succ j =>
   have:=ih j (by simpa using h)
   have e:lb (y::ys) (j+1)=lb ys j:=by simp [lb]
   rw [e]
   simp only [List.set_cons_succ,val,Nat.pow_succ]
   have h1:lb ys j*(4294967296^j*4294967296)=4294967296*(lb ys j*4294967296^j):=by rw [← Nat.mul_assoc,Nat.mul_comm]
   have h2:x*(4294967296^j*4294967296)=4294967296*(x*4294967296^j):=by rw [← Nat.mul_assoc,Nat.mul_comm]
   rw [h1,h2]
   omega
theorem gV (xs:List Nat) (i:Nat) (h:i<xs.length):val (xs.take (i+1))=val (xs.take i)+lb xs i*4294967296^i:=by
 rw [List.take_succ_eq_append_getElem h,val_append]
 have e:lb xs i=xs[i]:=by simp [lb,h]
 have hl:(xs.take i).length=i:=by simp;omega
 simp only [val,hl,e,Nat.mul_zero,Nat.add_zero]
 rw [Nat.mul_comm]
theorem yD (a b s:Nat) (ha:a<2^s):a|||b*2^s=a+b*2^s:=by
 have:=Nat.two_pow_add_eq_or_of_lt ha b
 rw [Nat.or_comm,Nat.mul_comm,← this,Nat.add_comm]
theorem AB (x s:Nat) (hs:s≤32):x*2^s%4294967296=x%2^(32-s)*2^s:=by
 have e:4294967296=2^(32-s)*2^s:=by rw [← Nat.pow_add,Nat.sub_add_cancel hs]
 rw [e,Nat.mul_mod_mul_right]
theorem Jn (x s:Nat) (hs:s≤32):x/2^(32-s)=x*2^s/4294967296:=by
 have e:4294967296=2^(32-s)*2^s:=by rw [← Nat.pow_add,Nat.sub_add_cancel hs]
 rw [e,Nat.mul_div_mul_right _ _ (Nat.two_pow_pos s)]
structure ru (xs:List Nat) (q s L i:Nat) (o:List Nat):Prop where
 len:o.length=L
 lt:∀ x∈o,x<4294967296
 val_eq:val o=val (xs.take i)*(4294967296^q*2^s)
 low:lb o (q+i)<2^s
 rest:∀ j,q+i<j→lb o j=0
theorem ru.start (xs:List Nat) (q s L:Nat):ru xs q s L 0 (List.replicate L 0) :=
 ⟨by simp,fun x hx=>by rw [List.eq_of_mem_replicate hx];decide,by simp [val,dG],by rw [gZ];exact Nat.two_pow_pos s,fun j _=>gZ L j⟩
def M9 (o:List Nat) (x q s i:Nat):List Nat:=(o.set (q+i) (lb o (q+i)|||x*2^s%4294967296)).set (q+i+1) (x/2^(32-s))
theorem ru.step {xs:List Nat} {q s L i:Nat} {o:List Nat} (h:ru xs q s L i o) (hs:s<32) (hx:∀ x∈xs,x<4294967296) (hi:i<xs.length) (hL:L=q+xs.length+1) :
  ru xs q s L (i+1) (M9 o (lb xs i) q s i):=by
 have hxi:=cK hx i
 have ho:lb o (q+i)|||lb xs i*2^s%4294967296=lb o (q+i)+lb xs i*2^s%4294967296:=by
  rw [AB _ _ (by omega)];exact yD _ _ _ h.low
 have hb:lb o (q+i)+lb xs i*2^s%4294967296<4294967296:=by
  have h1:=AB (lb xs i) s (by omega)
  have h2:lb xs i%2^(32-s)+1≤2^(32-s):=Nat.mod_lt _ (Nat.two_pow_pos _)
  have h3:=Nat.mul_le_mul_right (2^s) h2
  rw [← Nat.pow_add,Nat.sub_add_cancel (by omega),Nat.add_mul] at h3
  have:=h.low
  rw [h1]
  omega
 have hhi:lb xs i/2^(32-s)=lb xs i*2^s/4294967296:=Jn _ _ (by omega)
 have hlow:lb xs i*2^s/4294967296<2^s:=by
  rw [Nat.div_lt_iff_lt_mul (by decide),Nat.mul_comm (2^s)]
  exact Nat.mul_lt_mul_of_pos_right hxi (Nat.two_pow_pos s)
 have abV:2^s≤4294967296:=by
  have:=Nat.pow_le_pow_right (show 0<2 by decide) (show s≤32 by omega)
  simpa using this
 have e1:=qD o (q+i) (lb o (q+i)+lb xs i*2^s%4294967296) (by rw [h.len];omega)
 have e2:=qD (o.set (q+i) (lb o (q+i)+lb xs i*2^s%4294967296)) (q+i+1) (lb xs i*2^s/4294967296) (by simp [h.len];omega)
 rw [bX _ (by omega),h.rest (q+i+1) (by omega),Nat.zero_mul,Nat.add_zero] at e2
 unfold M9
 rw [ho,hhi]
 refine ⟨by simp [h.len],dY (dY h.lt hb) (by omega),?_,?_,?_⟩
 · rw [e2,gV xs i hi,Nat.add_mul,← h.val_eq]
   have e3:lb xs i*4294967296^i*(4294967296^q*2^s)=(lb xs i*2^s)*4294967296^(q+i):=by
    rw [Nat.pow_add];simp only [Nat.mul_assoc,Nat.mul_left_comm,Nat.mul_comm]
   rw [e3]
   have e4:lb xs i*2^s=lb xs i*2^s%4294967296+lb xs i*2^s/4294967296*4294967296:=by omega
   have e5:lb xs i*2^s/4294967296*4294967296^(q+i+1)=(lb xs i*2^s/4294967296*4294967296)*4294967296^(q+i):=by
    rw [Nat.pow_succ];simp only [Nat.mul_assoc,Nat.mul_left_comm,Nat.mul_comm]
   rw [e5]
   conv=>rhs;rw [e4]
   rw [Nat.add_mul] at e1 ⊢
   omega
 · rw [show q+(i+1)=q+i+1 by omega,kP _ (by simp [h.len];omega)];exact hlow
 · intro j hj
   rw [bX _ (by omega),bX _ (by omega)]
   exact h.rest j (by omega)
theorem mE (q:Nat):4294967296^q=2^(32*q):=by rw [Nat.pow_mul]
theorem ru.done {xs:List Nat} {k L:Nat} {o:List Nat} (h:ru xs (k/32) (k%32) L xs.length o):val o=val xs*2^k:=by
 rw [h.val_eq,List.take_length,mE,← Nat.pow_add,Nat.div_add_mod]
theorem GK (xs:List Nat) (q:Nat) (hx:∀ x∈xs,x<4294967296):val (xs.drop q)=val xs/4294967296^q:=by
 by_cases hq:q≤xs.length
 · have e:val xs=val (xs.take q)+4294967296^q*val (xs.drop q):=by
    have h:=val_append (xs.take q) (xs.drop q)
    rw [List.take_append_drop,List.length_take,Nat.min_eq_left hq] at h
    exact h
   have hlt:=sK (xs.take q) (fun x hx'=>hx x (List.mem_of_mem_take hx'))
   rw [List.length_take,Nat.min_eq_left hq] at hlt
   rw [e,Nat.add_mul_div_left _ _ (Nat.pow_pos (by decide)),Nat.div_eq_of_lt hlt,Nat.zero_add]
 · rw [List.drop_eq_nil_of_le (by omega)]
   have:=sK xs hx
   have h2:4294967296^xs.length≤4294967296^q:=Nat.pow_le_pow_right (by decide) (by omega)
   rw [Nat.div_eq_of_lt (by omega)]
   rfl
structure mU (ys:List Nat) (s L i:Nat) (o:List Nat):Prop where
 len:o.length=L
 lt:∀ x∈o,x<4294967296
 val_eq:val o=val (ys.take i)/2^s
 low:0<i→lb o (i-1)<2^(32-s)
 rest:∀ j,i≤j→lb o j=0
theorem mU.start (ys:List Nat) (s L:Nat):mU ys s L 0 (List.replicate L 0) :=
 ⟨by simp,fun x hx=>by rw [List.eq_of_mem_replicate hx];decide,by simp [val,dG],fun h=>absurd h (by omega),fun j _=>gZ L j⟩
def Jo (o:List Nat) (x s i:Nat):List Nat:=o.set i (x/2^s)
def Nc (o:List Nat) (x s i:Nat):List Nat:=(o.set i (x/2^s)).set (i-1) (lb o (i-1)|||x*2^(32-s)%4294967296)
theorem Nf (x s:Nat) (hx:x<4294967296) (hs:s≤32):x/2^s<2^(32-s):=by
 rw [Nat.div_lt_iff_lt_mul (Nat.two_pow_pos s),← Nat.pow_add,Nat.sub_add_cancel hs]
 exact hx
theorem mU.step0 {ys:List Nat} {s L:Nat} {o:List Nat} (h:mU ys s L 0 o) (hs:s<32) (hx:∀ x∈ys,x<4294967296) (hi:0<ys.length) (hL:L=ys.length) :
  mU ys s L 1 (Jo o (lb ys 0) s 0):=by
 have hxi:=cK hx 0
 have hle:lb ys 0/2^s≤lb ys 0:=Nat.div_le_self _ _
 have e1:=qD o 0 (lb ys 0/2^s) (by rw [h.len];omega)
 rw [h.rest 0 (Nat.le_refl _),h.val_eq] at e1
 unfold Jo
 refine ⟨by simp [h.len],dY h.lt (by omega),?_,fun _=>?_,fun j hj=>?_⟩
 · have:=gV ys 0 hi
   simp only [List.take_zero,val,Nat.zero_div,Nat.zero_add,Nat.pow_zero,Nat.mul_one] at e1 this
   rw [this];omega
 · rw [kP _ (by rw [h.len];omega)];exact Nf _ _ hxi (by omega)
 · rw [bX _ (by omega)];exact h.rest j (by omega)
theorem mU.step {ys:List Nat} {s L i:Nat} {o:List Nat} (h:mU ys s L i o) (h0:0<i) (hs:s<32) (hx:∀ x∈ys,x<4294967296) (hi:i<ys.length) (hL:L=ys.length) :
  mU ys s L (i+1) (Nc o (lb ys i) s i):=by
 obtain ⟨i,rfl⟩:∃ j,i=j+1:=⟨i-1,by omega⟩
 have hxi:=cK hx (i+1)
 have hle:lb ys (i+1)/2^s≤lb ys (i+1):=Nat.div_le_self _ _
 have hlow:=h.low h0
 rw [Nat.add_sub_cancel] at hlow
 have ho:lb o i|||lb ys (i+1)*2^(32-s)%4294967296=lb o i+lb ys (i+1)*2^(32-s)%4294967296:=by
  rw [AB _ _ (by omega)];exact yD _ _ _ hlow
 have hb:lb o i+lb ys (i+1)*2^(32-s)%4294967296<4294967296:=by
  have h1:=AB (lb ys (i+1)) (32-s) (by omega)
  have h2:lb ys (i+1)%2^(32-(32-s))+1≤2^(32-(32-s)):=Nat.mod_lt _ (Nat.two_pow_pos _)
  have h3:=Nat.mul_le_mul_right (2^(32-s)) h2
  rw [← Nat.pow_add,Nat.sub_add_cancel (by omega),Nat.add_mul] at h3
  rw [h1]
  omega
 have e1:=qD o (i+1) (lb ys (i+1)/2^s) (by rw [h.len];omega)
 rw [h.rest (i+1) (Nat.le_refl _),Nat.zero_mul,Nat.add_zero] at e1
 have e2:=qD (o.set (i+1) (lb ys (i+1)/2^s)) i (lb o i+lb ys (i+1)*2^(32-s)%4294967296) (by simp [h.len];omega)
 rw [bX _ (by omega)] at e2
 unfold Nc
 rw [Nat.add_sub_cancel,ho]
 refine ⟨by simp [h.len],dY (dY h.lt (by omega)) hb,?_,fun _=>?_,fun j hj=>?_⟩
 · have e3:=gV ys (i+1) hi
   have e4:lb ys (i+1)*4294967296^(i+1)=lb ys (i+1)*2^(32-s)*4294967296^i*2^s:=by
    have:(4294967296:Nat)=2^(32-s)*2^s:=by rw [← Nat.pow_add,Nat.sub_add_cancel (by omega)]
    rw [Nat.pow_succ]
    conv=>lhs;rw [show (4294967296:Nat)^i*4294967296=4294967296^i*(2^(32-s)*2^s) by rw [← this]]
    simp only [Nat.mul_assoc,Nat.mul_left_comm,Nat.mul_comm]
   rw [e3,e4,Nat.add_mul_div_right _ _ (Nat.two_pow_pos s),← h.val_eq]
   have e5:lb ys (i+1)/2^s=lb ys (i+1)*2^(32-s)/4294967296:=by
    have:=Jn (lb ys (i+1)) (32-s) (by omega)
    rwa [show 32-(32-s)=s by omega] at this
   have e6:lb ys (i+1)/2^s*4294967296^(i+1)=(lb ys (i+1)/2^s*4294967296)*4294967296^i:=by
    rw [Nat.pow_succ];simp only [Nat.mul_assoc,Nat.mul_left_comm,Nat.mul_comm]
   have e7:lb ys (i+1)*2^(32-s)=lb ys (i+1)*2^(32-s)%4294967296+lb ys (i+1)/2^s*4294967296:=by rw [e5];omega
   rw [e6] at e1
   rw [Nat.add_mul] at e2
   have e8:lb ys (i+1)*2^(32-s)*4294967296^i=lb ys (i+1)*2^(32-s)%4294967296*4294967296^i+lb ys (i+1)/2^s*4294967296*4294967296^i:=by
    rw [← Nat.add_mul,← e7]
   omega
 · rw [Nat.add_sub_cancel,bX _ (by omega),kP _ (by rw [h.len];omega)];exact Nf _ _ hxi (by omega)
 · rw [bX _ (by omega),bX _ (by omega)];exact h.rest j (by omega)
theorem mU.done {xs:List Nat} {k L i:Nat} {o:List Nat} (hx:∀ x∈xs,x<4294967296) (h:mU (xs.drop (k/32)) (k%32) L i o) (hi:i=(xs.drop (k/32)).length):val o=val xs/2^k:=by
 subst hi
 rw [h.val_eq,List.take_length,GK _ _ hx,mE,Nat.div_div_eq_div_mul,← Nat.pow_add,Nat.div_add_mod]
theorem Jp (n k:Nat):lb (limbs n) (k/32)/2^(k%32)%2=n/2^k%2:=by
 rw [nQ,mE]
 have hs:k%32<32:=Nat.mod_lt _ (by decide)
 generalize hm:n/2^(32*(k/32))=m
 have e:(4294967296:Nat)=2^(k%32)*2^(32-k%32):=by rw [← Nat.pow_add,show k%32+(32-k%32)=32 by omega]
 rw [e,Nat.mod_mul_right_div_self,Nat.mod_mod_of_dvd _ ⟨2^(32-k%32-1),by rw [← Nat.pow_succ',show (32-k%32-1).succ=32-k%32 by omega]⟩,← hm,Nat.div_div_eq_div_mul,← Nat.pow_add,Nat.div_add_mod]
theorem Vr (n k:Nat) (h:(limbs n).length≤k/32):n/2^k%2=0:=by
 rw [← Jp,pz h,Nat.zero_div]
theorem Dj (n:Nat) (h:n≠0):fK n=32*((limbs n).length-1)+fK (lb (limbs n) ((limbs n).length-1)):=by
 have hl:=CJ h
 have e:lb (limbs n) ((limbs n).length-1)=n/2^(32*((limbs n).length-1)):=by
  rw [nQ,← mE]
  apply Nat.mod_eq_of_lt
  have:=jw n
  have hp:0<(limbs n).length:=by rw [d9 h];simp
  rw [Nat.div_lt_iff_lt_mul (Nat.pow_pos (by decide)),← Nat.pow_succ',show ((limbs n).length-1).succ=(limbs n).length by omega]
  exact this
 rw [e]
 apply qV
 rw [← e]
 exact hl
theorem cO {n k:Nat} (h:(limbs n).length≤k):n<4294967296^k :=
 Nat.lt_of_lt_of_le (jw n) (Nat.pow_le_pow_right (by decide) h)
theorem wJ {n k:Nat} (h:k<(limbs n).length):4294967296^k≤n:=by
 rcases Nat.lt_or_ge n (4294967296^k) with h1 | h1
 · have:=je h1;omega
 · exact h1
theorem Vs {xs:List Nat} (q:Nat) (hx:∀ x∈xs,x<4294967296):∀ x∈xs.drop q,x<4294967296:=fun x h=>hx x (List.mem_of_mem_drop h)
end Go.Proofs.YtdpmbgomcjnohaaGreatDoor
/- Order of limbs: plain lists and naturals. -/
namespace Go.Proofs.YtdpmbgomcjnohaaGreatDoor
def qx (L k:Nat):List Nat:=(List.range k).map fun j=>L-1-j
theorem vZ (L k:Nat):qx L (k+1)=qx L k++[L-1-k]:=by simp [qx,List.range_succ]
theorem Gh (L k:Nat):(qx L k).length=k:=by simp [qx]
theorem EC {L k j:Nat} (hk:k≤L):j∈qx L k↔L-k≤j∧j<L:=by
 simp only [qx,List.mem_map,List.mem_range]
 constructor
 · rintro ⟨i,hi,rfl⟩;omega
 · intro h;exact ⟨L-1-j,by omega,by omega⟩
theorem pU {xs ys:List Nat} (hl:xs.length=ys.length) (hx:∀ x∈xs,x<4294967296) (hy:∀ x∈ys,x<4294967296) (p:Nat) (hp:p<xs.length)
  (ht:∀ j,p<j→j<xs.length→lb xs j=lb ys j) (hlt:lb xs p<lb ys p):val xs<val ys:=by
 induction xs generalizing ys p with
 | nil=>simp at hp
 | cons x xs ih =>
  cases ys with
  | nil=>simp at hl
  | cons y ys =>
   have e:∀ (a:Nat) (l:List Nat) j,lb (a::l) (j+1)=lb l j:=fun a l j=>by simp [lb]
   have hl':xs.length=ys.length:=by simpa using hl
   have h1:=hx x (List.mem_cons_self ..)
   have h2:=hy y (List.mem_cons_self ..)
   simp only [val]
   cases p with
   | zero =>
    have:xs=ys:=mP hl' fun j hj=>by
     have:=ht (j+1) (by omega) (by simpa using hj)
     rwa [e,e] at this
    subst this
    have h3:lb (x::xs) 0=x:=by simp [lb]
    have h4:lb (y::xs) 0=y:=by simp [lb]
    omega
   | succ p =>
    rw [e,e] at hlt
    have:=ih hl' (fun z hz=>hx z (List.mem_cons_of_mem _ hz)) (fun z hz=>hy z (List.mem_cons_of_mem _ hz)) p (by simpa using hp)
     (fun j h3 h4=>by
      have:=ht (j+1) (by omega) (by simpa using h4)
      rwa [e,e] at this) hlt
    omega
theorem kV {x y:Int} (h:x<y):bZ x y = -1:=if_pos h
theorem lZ {x y:Int} (h:y<x):bZ x y=1:=by rw [bZ,if_neg (by omega),if_pos h]
theorem qC (x:Int):bZ x x=0:=by rw [bZ,if_neg (by omega),if_neg (by omega)]
theorem xR {n m:Nat} (h:(limbs n).length<(limbs m).length):n<m:=by
 have h1:=jw n
 have h2:=wJ h
 omega
theorem SF {n m:Nat} (h:(limbs n).length≠(limbs m).length):bZ (limbs n).length (limbs m).length=bZ n m:=by
 rcases Nat.lt_or_gt_of_ne h with h | h
 · have:=xR h
   rw [kV (by omega),kV (by omega)]
 · have:=xR h
   rw [lZ (by omega),lZ (by omega)]
theorem SG {n m p:Nat} (hl:(limbs n).length=(limbs m).length) (hp:p<(limbs n).length) (ht:∀ j,p<j→j<(limbs n).length→lb (limbs n) j=lb (limbs m) j)
  (hne:lb (limbs n) p≠lb (limbs m) p):bZ (lb (limbs n) p) (lb (limbs m) p)=bZ n m:=by
 rcases Nat.lt_or_gt_of_ne hne with h | h
 · have:=pU hl (qo n) (qo m) p hp ht h
   rw [aH,aH] at this
   rw [kV (by omega),kV (by omega)]
 · have:=pU hl.symm (qo m) (qo n) p (by omega) (fun j h1 h2=>(ht j h1 (by omega)).symm) h
   rw [aH,aH] at this
   rw [lZ (by omega),lZ (by omega)]
end Go.Proofs.YtdpmbgomcjnohaaGreatDoor
/- Words to the base 2^64 and the numbers that they are: plain lists and naturals. -/
namespace Go.Proofs.YtdpmbgomcjnohaaGreatDoor
set_option linter.unusedVariables false
def aU:List Nat→Nat
 | []=>0
 | x::xs=>x+18446744073709551616*aU xs
def BB:Nat:=18446744073709551616
theorem jd (xs ys:List Nat):aU (xs++ys)=aU xs+BB^xs.length*aU ys:=by
 induction xs with
 | nil=>simp [aU]
 | cons x xs ih =>
  simp only [List.cons_append,aU,ih,List.length_cons,Nat.pow_succ]
  rw [Nat.mul_add,Nat.add_assoc]
  congr 2
  rw [← Nat.mul_assoc,Nat.mul_comm 18446744073709551616]
  rfl
theorem uV (xs:List Nat) (h:∀ x∈xs,x<18446744073709551616):aU xs<BB^xs.length:=by
 induction xs with
 | nil=>simp [aU]
 | cons x xs ih =>
  have h1:=ih fun y hy=>h y (List.mem_cons_of_mem _ hy)
  have h2:=h x (List.mem_cons_self ..)
  simp only [aU,List.length_cons,Nat.pow_succ]
  have:aU xs*18446744073709551616+18446744073709551616≤BB^xs.length*BB:=by
   have:=Nat.mul_le_mul_right 18446744073709551616 (show aU xs+1≤BB^xs.length from h1)
   rw [Nat.add_mul] at this
   show _≤BB^xs.length*18446744073709551616
   omega
  omega
theorem kL (n:Nat):aU (List.replicate n 0)=0:=by
 induction n with
 | zero=>rfl
 | succ n ih=>rw [List.replicate_succ,aU,ih]
theorem mZ (o:List Nat) (i x:Nat) (h:i<o.length):aU (o.set i x)+BB^i*lb o i=aU o+BB^i*x:=by
 induction o generalizing i with
 | nil=>simp at h
 | cons y ys ih =>
  cases i with
  | zero =>
   simp only [List.set_cons_zero,aU,Nat.pow_zero,Nat.one_mul]
   have:lb (y::ys) 0=y:=rfl
   omega
  | succ i =>
   have:=ih i (by simpa using h)
   simp only [List.set_cons_succ,aU]
   have e:lb (y::ys) (i+1)=lb ys i:=by simp [lb]
   rw [e,Nat.pow_succ,Nat.mul_comm (BB^i) BB]
   have h2:BB*(aU (ys.set i x)+BB^i*lb ys i)=BB*(aU ys+BB^i*x):=by rw [this]
   rw [Nat.mul_add,Nat.mul_add,← Nat.mul_assoc,← Nat.mul_assoc] at h2
   show y+BB*_+_=y+BB*_+_
   omega
theorem gm (xs:List Nat) (k:Nat) (h:k<xs.length):aU (xs.take (k+1))=aU (xs.take k)+BB^k*lb xs k:=by
 have e:xs.take (k+1)=xs.take k++[lb xs k]:=by
  rw [List.take_add_one,List.getElem?_eq_getElem h]
  unfold lb
  rw [List.getElem?_eq_getElem h];rfl
 rw [e,jd,List.length_take,Nat.min_eq_left (by omega)]
 simp [aU]
theorem lY (xs:List Nat) (k:Nat) (h:k≤xs.length):aU xs=aU (xs.take k)+BB^k*aU (xs.drop k):=by
 conv=>lhs;rw [← List.take_append_drop k xs]
 rw [jd,List.length_take,Nat.min_eq_left h]
def iJ:List Nat→List Nat
 | []=>[]
 | [x]=>[x]
 | x::y::r=>(x+4294967296*y)::iJ r
theorem jo:∀ xs:List Nat,(iJ xs).length=(xs.length+1)/2
 | []=>rfl
 | [x]=>by simp [iJ]
 | x::y::r=>by rw [iJ,List.length_cons,jo r];simp only [List.length_cons];omega
theorem kM:∀ xs:List Nat,aU (iJ xs)=val xs
 | []=>rfl
 | [x]=>rfl
 | x::y::r=>by rw [iJ,aU,kM r];simp only [val];omega
theorem wD:∀ (xs:List Nat) (i:Nat),lb (iJ xs) i=lb xs (2*i)+4294967296*lb xs (2*i+1)
 | [],i=>by simp [iJ,lb]
 | [x],i=>by
  cases i with
  | zero=>simp [iJ,lb]
  | succ i=>rw [show 2*(i+1)=(2*i+1)+1 by omega];simp [iJ,lb]
 | x::y::r,i=>by
  cases i with
  | zero=>simp [iJ,lb]
  | succ i =>
   have:=wD r i
   have e1:lb (iJ (x::y::r)) (i+1)=lb (iJ r) i:=by simp [iJ,lb]
   have e2:lb (x::y::r) (2*(i+1))=lb r (2*i):=by rw [show 2*(i+1)=2*i+1+1 by omega];simp [lb]
   have e3:lb (x::y::r) (2*(i+1)+1)=lb r (2*i+1):=by rw [show 2*(i+1)+1=2*i+1+1+1 by omega];simp [lb]
   rw [e1,e2,e3,this]
theorem nP (xs:List Nat) (h:∀ x∈xs,x<4294967296):∀ x∈iJ xs,x<18446744073709551616:=by
 refine NH fun j hj=>?_
 rw [wD]
 have h1:=cK h (2*j)
 have h2:=cK h (2*j+1)
 omega
def eu:List Nat→List Nat
 | []=>[]
 | x::r=>x%4294967296::x/4294967296::eu r
theorem y7 (ws:List Nat):(eu ws).length=2*ws.length:=by
 induction ws with
 | nil=>rfl
 | cons x r ih=>simp only [eu,List.length_cons,ih];omega
theorem y8 (ws:List Nat):val (eu ws)=aU ws:=by
 induction ws with
 | nil=>rfl
 | cons x r ih=>simp only [eu,val,aU,ih];omega
theorem AP (ws:List Nat) (h:∀ x∈ws,x<18446744073709551616):∀ x∈eu ws,x<4294967296:=by
 induction ws with
 | nil=>intro x hx;simp [eu] at hx
 | cons y r ih =>
  intro x hx
  have h0:=h y (List.mem_cons_self ..)
  simp only [eu,List.mem_cons] at hx
  rcases hx with rfl | rfl | hx
  · omega
  · omega
  · exact ih (fun z hz=>h z (List.mem_cons_of_mem _ hz)) x hx
theorem K3 (ws:List Nat) (i:Nat):lb (eu ws) (2*i)=lb ws i%4294967296∧lb (eu ws) (2*i+1)=lb ws i/4294967296:=by
 induction ws generalizing i with
 | nil=>simp [eu,lb]
 | cons x r ih =>
  cases i with
  | zero=>simp [eu,lb]
  | succ i =>
   have:=ih i
   have e1:lb (eu (x::r)) (2*(i+1))=lb (eu r) (2*i):=by rw [show 2*(i+1)=2*i+1+1 by omega];simp [eu,lb]
   have e2:lb (eu (x::r)) (2*(i+1)+1)=lb (eu r) (2*i+1):=by rw [show 2*(i+1)+1=2*i+1+1+1 by omega];simp [eu,lb]
   have e3:lb (x::r) (i+1)=lb r i:=by simp [lb]
   rw [e1,e2,e3];exact this
theorem Ez (P S S' x y c d A v:Nat) (hset:S'+P*x=S+P*v) (hinv:S+P*c=A) (hd:x+y+c=v+BB*d):S'+P*BB*d=A+P*y:=by
 have h1:P*(x+y+c)=P*(v+BB*d):=by rw [hd]
 rw [Nat.mul_add,Nat.mul_add,Nat.mul_add,← Nat.mul_assoc] at h1
 omega
theorem DW (P S S' x y c d A T v:Nat) (hset:S'+P*x=S+P*v) (hinv:S+T=A+P*c) (hd:x+BB*d=v+y+c):S'+(T+P*y)=A+P*BB*d:=by
 have h1:P*(x+BB*d)=P*(v+y+c):=by rw [hd]
 rw [Nat.mul_add,Nat.mul_add,Nat.mul_add,← Nat.mul_assoc] at h1
 omega
end Go.Proofs.YtdpmbgomcjnohaaGreatDoor
/- The mathematics of a digit of a quotient: the guess by three words and two is right, or one too great. -/
namespace Go.Proofs.YtdpmbgomcjnohaaGreatDoor
open Go.RowKit
set_option linter.unusedVariables false
set_option maxHeartbeats 400000
structure GsI (B P D T V U v1 v0 t1 u0 q r:Nat):Prop where
 inv:q*v1+r=t1
 top:U<(q+1)*V
 lt:q<B
theorem LD (B D T v1 v0 t1 u0 q r:Nat) (hD:D=v1*B+v0) (hT:T=t1*B+u0) (hq:q*v1+r=t1):q*D≤T↔q*v0≤r*B+u0:=by
 have h1:q*D=q*v1*B+q*v0:=by rw [hD,Nat.mul_add,Nat.mul_assoc]
 have h2:t1*B=q*v1*B+r*B:=by rw [← hq,Nat.add_mul]
 omega
theorem Tj (B P D T V U v1 v0 vr t1 u0 ur q r:Nat) (hD:D=v1*B+v0) (hT:T=t1*B+u0) (hV:V=D*P+vr) (hU:U=T*P+ur) (hur:ur<P)
  (h:GsI B P D T V U v1 v0 t1 u0 q r) (hgt:r*B+u0<q*v0):1≤q∧GsI B P D T V U v1 v0 t1 u0 (q-1) (r+v1):=by
 have h1:T<q*D:=Nat.lt_of_not_le fun hle=>by
  have:=(LD B D T v1 v0 t1 u0 q r hD hT h.inv).1 hle
  omega
 have hq:1≤q:=by
  rcases Nat.eq_zero_or_pos q with h0 | h0
  · rw [h0,Nat.zero_mul] at h1;omega
  · exact h0
 refine ⟨hq,?_⟩
 obtain ⟨p,rfl⟩:∃ p,q=p+1:=⟨q-1,by omega⟩
 refine ⟨?_,?_,by have:=h.lt;omega⟩
 · have:=h.inv
   rw [Nat.add_sub_cancel]
   rw [Nat.add_mul,Nat.one_mul] at this
   omega
 · rw [Nat.add_sub_cancel]
   have h2:(T+1)*P≤(p+1)*D*P:=Nat.mul_le_mul_right P h1
   have h3:(p+1)*V=(p+1)*D*P+(p+1)*vr:=by rw [hV,Nat.mul_add,Nat.mul_assoc]
   rw [Nat.add_mul T 1,Nat.one_mul] at h2
   omega
theorem Wo (B P D T V U v1 v0 vr t1 u0 ur q r:Nat) (hD:D=v1*B+v0) (hT:T=t1*B+u0) (hV:V=D*P+vr) (hU:U=T*P+ur) (DU:vr≤P) (hBD:B≤D)
  (h:GsI B P D T V U v1 v0 t1 u0 q r) (hle:q*v0≤r*B+u0):q*V≤U+V:=by
 have h1:=(LD B D T v1 v0 t1 u0 q r hD hT h.inv).2 hle
 have h2:q*D*P≤T*P:=Nat.mul_le_mul_right P h1
 have h3:q*V=q*D*P+q*vr:=by rw [hV,Nat.mul_add,Nat.mul_assoc]
 have h4:q*vr≤D*P:=Nat.mul_le_mul (by have:=h.lt;omega) DU
 omega
theorem Tk (x q bo v s1 c1 s c2 hi lo b2:Nat) (hx:x<18446744073709551616) (hq:q<18446744073709551616) (hb:bo<18446744073709551616) (hv:v<18446744073709551616)
  (hp:x*q=18446744073709551616*hi+lo) (hlo:lo<18446744073709551616)
  (h1:s1+lo=v+18446744073709551616*c1) (hs1:s1<18446744073709551616) (h2:s+bo=s1+18446744073709551616*c2) (hs:s<18446744073709551616) (hb2:hi+c1+c2=b2) :
  v+18446744073709551616*b2=s+x*q+bo∧b2<18446744073709551616∧hi+c1<18446744073709551616:=by
 have h3:x*q≤18446744073709551615*18446744073709551615:=Nat.mul_le_mul (by omega) (by omega)
 refine ⟨by omega,by omega,by omega⟩
end Go.Proofs.YtdpmbgomcjnohaaGreatDoor
/- The mathematics of bits.Div64 for a divisor whose first bit is set: two digits to the base of 2^32. -/
namespace Go.Proofs.YtdpmbgomcjnohaaGreatDoor
open Go.RowKit
set_option linter.unusedVariables false
set_option maxHeartbeats 400000
structure Tm (B y y1 hi u q r:Nat):Prop where
 inv:q*y1+r=hi
 top:hi*B+u<(q+1)*y
theorem Gv (B y y1 y0 hi u q r:Nat) (hy:y=y1*B+y0) (hu:u<B) (h1:0<y1) (hq:hi/y1=q) (hr:hi%y1=r):Tm B y y1 hi u q r∧r<y1:=by
 have hlt:r<y1:=by rw [← hr];exact Nat.mod_lt _ h1
 have hinv:q*y1+r=hi:=by rw [← hq,← hr,Nat.mul_comm];exact Nat.div_add_mod _ _
 refine ⟨⟨hinv,?_⟩,hlt⟩
 have h2:(hi+1)*B≤(q+1)*y1*B:=Nat.mul_le_mul_right B (by rw [Nat.add_mul,Nat.one_mul];omega)
 have h3:(q+1)*y=(q+1)*y1*B+(q+1)*y0:=by rw [hy,Nat.mul_add,Nat.mul_assoc]
 rw [Nat.add_mul,Nat.one_mul] at h2
 omega
theorem LF (B y y1 y0 hi u q r:Nat) (hy:y=y1*B+y0) (hq:q*y1+r=hi):q*y≤hi*B+u↔q*y0≤B*r+u:=by
 have h1:q*y=q*y1*B+q*y0:=by rw [hy,Nat.mul_add,Nat.mul_assoc]
 have h2:hi*B=q*y1*B+B*r:=by rw [← hq,Nat.add_mul,Nat.mul_comm r B]
 omega
theorem LG (B y y1 y0 hi u q r:Nat) (hy:y=y1*B+y0) (hu:u<B) (hh:hi<y) (h:Tm B y y1 hi u q r) (hc:B≤q∨B*r+u<q*y0) :
  1≤q∧Tm B y y1 hi u (q-1) (r+y1):=by
 have h1:hi*B+u<q*y:=by
  rcases hc with hc | hc
  · have h2:(hi+1)*B≤y*B:=Nat.mul_le_mul_right B hh
    have h3:B*y≤q*y:=Nat.mul_le_mul_right y hc
    rw [Nat.add_mul,Nat.one_mul] at h2
    rw [Nat.mul_comm B y] at h3
    omega
  · exact Nat.lt_of_not_le fun hle=>by
     have:=(LF B y y1 y0 hi u q r hy h.inv).1 hle
     omega
 have hq:1≤q:=by
  rcases Nat.eq_zero_or_pos q with h0 | h0
  · rw [h0,Nat.zero_mul] at h1;omega
  · exact h0
 refine ⟨hq,?_⟩
 obtain ⟨p,rfl⟩:∃ p,q=p+1:=⟨q-1,by omega⟩
 refine ⟨?_,by rw [Nat.add_sub_cancel];exact h1⟩
 have:=h.inv
 rw [Nat.add_sub_cancel]
 rw [Nat.add_mul,Nat.one_mul] at this
 omega
theorem Wp (B y y1 y0 hi u q r:Nat) (hy:y=y1*B+y0) (h0:y0<B) (hh:hi<y) (h:Tm B y y1 hi u q r) (hc:q<B∧q*y0≤B*r+u∨B≤r) :
  q<B∧q*y≤hi*B+u∧hi*B+u<(q+1)*y:=by
 have hinv:=h.inv
 have hqB:q<B:=by
  rcases hc with hc | hc
  · exact hc.1
  · refine Nat.lt_of_not_le fun hle=>?_
    have h2:B*y1≤q*y1:=Nat.mul_le_mul_right y1 hle
    rw [Nat.mul_comm B y1] at h2
    omega
 refine ⟨hqB,(LF B y y1 y0 hi u q r hy hinv).2 ?_,h.top⟩
 rcases hc with hc | hc
 · exact hc.2
 · have h2:q*y0≤B*B:=Nat.mul_le_mul (by omega) (by omega)
   have h3:B*B≤B*r:=Nat.mul_le_mul_left B hc
   omega
theorem Tn (B y hi u1 u0 q1 q0 m r:Nat) (h1:q1*y+m=hi*B+u1) (h0:q0*y+r=m*B+u0):(q1*B+q0)*y+r=hi*(B*B)+(u1*B+u0):=by
 have h2:(q1*y+m)*B=(hi*B+u1)*B:=by rw [h1]
 rw [Nat.add_mul,Nat.add_mul,Nat.mul_assoc hi B B] at h2
 rw [Nat.add_mul,Nat.mul_assoc q1 B y,Nat.mul_comm B y,← Nat.mul_assoc q1 y B]
 omega
theorem Tp (B y hi u q m:Nat) (hm:q*y+m=hi*B+u) (hlt:m<18446744073709551616) :
  ((hi*B%18446744073709551616+u)%18446744073709551616+18446744073709551616-q*y%18446744073709551616)%18446744073709551616=m:=by
 generalize hi*B=x at *
 generalize q*y=z at *
 omega
theorem EE (y n q r:Nat) (h:q*y+r=n) (hr:r<y):n/y=q∧n%y=r:=by
 subst h
 refine ⟨?_,?_⟩
 · rw [Nat.mul_comm,Nat.mul_add_div (by omega),Nat.div_eq_of_lt hr,Nat.add_zero]
 · rw [Nat.mul_comm,Nat.mul_add_mod,Nat.mod_eq_of_lt hr]
end Go.Proofs.YtdpmbgomcjnohaaGreatDoor
/- math/bits: a word whose first bit is set has no leading noughts. -/
namespace Go.Proofs.YtdpmbgomcjnohaaGreatDoor
open Go.RowKit
set_option linter.unusedVariables false
set_option maxHeartbeats 400000
theorem Ng (w:World) (x:Nat) (h:9223372036854775808≤x) (h2:x<18446744073709551616) :
  Calls Tryz.prog 169 #[.int .u64 x] w fun e w'=>e = .returned (.int .i64 64)∧w=w':=by
 have h32:decide ((4294967296:Int)≤(x:Nat))=true:=by rw [decide_eq_true_iff];omega
 have h65:decide ((65536:Int)≤(x:Nat)/4294967296)=true:=by rw [decide_eq_true_iff];omega
 have Tt:decide ((256:Int)≤(x:Nat)/4294967296/65536)=true:=by rw [decide_eq_true_iff];omega
 have hI:=fun w=>rG (P:=Tryz.prog) 9 Tryz.underlying9 .u8 (x/4294967296/65536/256%256) (by omega) w
 have hB:fK (x/4294967296/65536/256%256)=8:=by
  apply Nat.le_antisymm
  · exact fB (by omega)
  · exact jQ (by omega)
 have hv:((x/4294967296/65536/256%256:Nat):Int)=(x:Int)/4294967296/65536/256%256:=by omega
 rw [hv,hB] at hI
 clear hv hB
 go_enter Tryz.func169,Tryz.ntmps169
 generalize hT:(ByteArray.mk _:ByteArray)=T
 have LH:T=Dq:=by rw [← hT];exact wu
 rw [← LH] at hI
 clear hT LH h h2
 go_wp2
 go_ret
 exact ⟨rfl,rfl⟩
theorem Jy (w:World) (x:Nat) (h:9223372036854775808≤x) (h2:x<18446744073709551616) :
  Calls Tryz.prog 214 #[.int .u64 x] w fun e w'=>e = .returned (.int .i64 0)∧w=w':=by
 go_enter Tryz.func214,Tryz.ntmps214
 go_wp2_with (fail)
 refine (Ng _ x h h2).mono ?_
 rintro e w' ⟨rfl,rfl⟩
 go_wp2
 go_ret
 exact ⟨rfl,rfl⟩
end Go.Proofs.YtdpmbgomcjnohaaGreatDoor
