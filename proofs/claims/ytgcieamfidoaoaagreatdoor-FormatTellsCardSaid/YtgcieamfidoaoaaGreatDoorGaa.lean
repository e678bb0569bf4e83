/- Base. -/
import Derived.Deep.RegionHeld3
import Derived.BigCall
set_option linter.all false
set_option maxHeartbeats 8000000
set_option maxRecDepth 100000
namespace Go.Proofs.YtgcieamfidoaoaaGreatDoor
namespace Pl
open Go
def bitsOf:List Nat→Nat
 | []=>0
 | x::l=>Nat.lor (bitsOf l) (Nat.shiftLeft 1 x)
def tb (m j:Nat):Bool:=Nat.beq (Nat.land (Nat.shiftRight m j) 1) 1
theorem beq_iff (a b:Nat):Nat.beq a b=true↔a=b:=⟨Nat.eq_of_beq_eq_true,fun h=>by subst h;exact Nat.beq_refl _⟩
theorem kV (m j:Nat):tb m j=m.testBit j:=by have h2:=Nat.mod_two_eq_zero_or_one (m >>> j);have h:Nat.land (Nat.shiftRight m j) 1=(m >>> j)%2:=Nat.and_one_is_mod (m >>> j);unfold tb Nat.testBit;rw [h,Nat.and_comm,Nat.and_one_is_mod];rcases h2 with h2 | h2<;>rw [h2]<;>rfl
theorem sO (x k:Nat):(Nat.shiftLeft 1 x).testBit k=decide (k=x):=by
 have h:Nat.shiftLeft 1 x=2^x:=by show 1 <<< x=2^x;rw [Nat.shiftLeft_eq,Nat.one_mul]
 rw [h,Nat.testBit_two_pow];by_cases e:x=k
 · subst e;simp
 · rw [decide_eq_false e,decide_eq_false (fun h=>e h.symm)]
theorem oo (k:Nat):∀ l:List Nat,(bitsOf l).testBit k=true↔k∈l
 | []=>by simp [bitsOf]
 | x::l=>by have h:(bitsOf (x::l)).testBit k=((bitsOf l).testBit k||(Nat.shiftLeft 1 x).testBit k):=Nat.testBit_or _ _ _;rw [h,Bool.or_eq_true,oo k l,sO,decide_eq_true_eq,List.mem_cons,or_comm]
theorem MM {a m:Nat} (h:Nat.beq (Nat.land a m) a=true) (k:Nat) (hk:a.testBit k=true):m.testBit k=true:=by have h:=(beq_iff _ _).1 h;have h2:(Nat.land a m).testBit k=(a.testBit k&&m.testBit k):=Nat.testBit_and _ _ _;rw [h,hk,Bool.true_and] at h2;exact h2.symm
theorem MN {a m:Nat} (h:∀ k,a.testBit k=true→m.testBit k=true):Nat.beq (Nat.land a m) a=true:=by
 rw [beq_iff];refine Nat.eq_of_testBit_eq fun k=>?_;have h2:(Nat.land a m).testBit k=(a.testBit k&&m.testBit k):=Nat.testBit_and _ _ _;rw [h2];cases hk:a.testBit k
 · rfl
 · rw [h k hk];rfl
theorem I6 {a m:Nat} (h:Nat.beq (Nat.land a m) 0=true) (k:Nat) (hk:a.testBit k=true):m.testBit k=false:=by have h:=(beq_iff _ _).1 h;have h2:(Nat.land a m).testBit k=(a.testBit k&&m.testBit k):=Nat.testBit_and _ _ _;rw [h,hk,Bool.true_and,Nat.zero_testBit] at h2;exact h2.symm
structure Tb where
 A:Nat
 D:Nat
 L:Nat
def dm:Option Nat→Nat
 | some d=>Nat.shiftLeft 1 d
 | none=>0
def row (ops:Array Oper) (o:Oper):Tb:=⟨bitsOf ((o.after.toList.filter (Region.binds .any)).map (·.on)),dm o.dst,bitsOf (o.looksAt ops)⟩
def tabs (ops:Array Oper):List Tb:=ops.toList.map (row ops)
def Ke (i D L M:Nat):List Tb→Nat→Bool
 | [],_=>true
 | t::l,j=>(Nat.beq j i||tb M j||tb t.A i||(Nat.beq (Nat.land D (Nat.lor t.L t.D)) 0&&Nat.beq (Nat.land t.D L) 0))&&Ke i D L M l (j+1)
def Kg (i M:Nat):List Tb→Nat→Bool
 | [],_=>true
 | t::l,j=>(Nat.beq j i||tb M j||!(Nat.beq (Nat.land t.A M) t.A))&&Kg i M l (j+1)
def Gp (T:List Tb) (e:Nat):List (Bool × Nat × Nat)→Nat→Bool
 | [],M=>Nat.beq M e
 | (k,i,m)::r,M=>Nat.beq M m&&(match T[i]? with
  | none=>false
  | some t=>!(tb m i)&&Nat.beq (Nat.land t.A m) t.A&&(match k with | true=>Ke i t.D t.L m T 0 | false=>Kg i m T 0))&&Gp T e r (Nat.lor m (Nat.shiftLeft 1 i))
theorem Dz {i D L M:Nat}:∀ (l:List Tb) (j:Nat),Ke i D L M l j=true→∀ (k:Nat) (t:Tb),l[k]?=some t→j+k≠i→M.testBit (j+k)=false→t.A.testBit i=false →
  Nat.beq (Nat.land D (Nat.lor t.L t.D)) 0=true∧Nat.beq (Nat.land t.D L) 0=true
 | [],_,_,k,t,h,_,_,_=>by simp at h
 | x::l,j,h,k,t,hk,hi,hM,hA=>by
  rw [Ke,Bool.and_eq_true] at h;cases k with
  | zero =>
   obtain rfl:x=t:=(by simpa using hk);rw [Nat.add_zero] at hi hM;have h1:=h.1;rw [kV,kV,hM,hA,Bool.or_false,Bool.or_false,Bool.or_eq_true,beq_iff,Bool.and_eq_true] at h1;rcases h1 with h1 | h1
   · exact absurd h1 hi
   · exact h1
  | succ k =>have hs:j+(k+1)=(j+1)+k:=(by omega);rw [hs] at hi hM;exact Dz l (j+1) h.2 k t (by simpa using hk) hi hM hA
theorem DC {i M:Nat}:∀ (l:List Tb) (j:Nat),Kg i M l j=true→∀ (k:Nat) (t:Tb),l[k]?=some t→j+k≠i→M.testBit (j+k)=false→Nat.beq (Nat.land t.A M) t.A=false
 | [],_,_,k,t,h,_,_=>by simp at h
 | x::l,j,h,k,t,hk,hi,hM=>by
  rw [Kg,Bool.and_eq_true] at h;cases k with
  | zero =>
   obtain rfl:x=t:=(by simpa using hk);rw [Nat.add_zero] at hi hM;have h1:=h.1;rw [kV,hM,Bool.or_false,Bool.or_eq_true,beq_iff] at h1;rcases h1 with h1 | h1
   · exact absurd h1 hi
   · simpa using h1
  | succ k =>have hs:j+(k+1)=(j+1)+k:=(by omega);rw [hs] at hi hM;exact DC l (j+1) h.2 k t (by simpa using hk) hi hM
def WE (n M:Nat) (listed:Array Bool):Prop:=listed.size=n∧∀ j,listed.getD j false=M.testBit j
theorem WE.new (n:Nat):WE n 0 (Array.replicate n false):=⟨by simp,fun j=>by
 rw [Nat.zero_testBit,Array.getD_eq_getD_getElem?];by_cases h:j<n
 · simp [h]
 · simp [h]⟩
theorem WE.t {n M:Nat} {listed:Array Bool} (h:WE n M listed) {j:Nat} (hj:j<n):listed.getD j true=M.testBit j:=by
 rw [← h.2 j,Array.getD_eq_getD_getElem?,Array.getD_eq_getD_getElem?];have:j<listed.size:=by rw [h.1];exact hj
 simp [this]
theorem WE.put {n M:Nat} {listed:Array Bool} (h:WE n M listed) {i:Nat} (hi:i<n):WE n (Nat.lor M (Nat.shiftLeft 1 i)) (listed.setIfInBounds i true):=⟨by rw [Array.size_setIfInBounds];exact h.1,fun j=>by
 have h2:(Nat.lor M (Nat.shiftLeft 1 i)).testBit j=(M.testBit j||(Nat.shiftLeft 1 i).testBit j):=Nat.testBit_or _ _ _;rw [h2,sO,← h.2 j,Array.getD_eq_getD_getElem?,Array.getD_eq_getD_getElem?];by_cases e:i=j
 · subst e;have:i<listed.size:=(by rw [h.1];exact hi);simp [this]
 · rw [Array.getElem?_setIfInBounds_ne e];simp [show ¬ j=i from fun x=>e x.symm]⟩
theorem BA {ops:Array Oper} {j:Nat} {o:Oper} (h:ops[j]?=some o):(tabs ops)[j]?=some (row ops o):=by unfold tabs;rw [List.getElem?_map,Array.getElem?_toList,h];rfl
theorem MO {ops:Array Oper} {j:Nat} {t:Tb} (h:(tabs ops)[j]?=some t):∃ o,ops[j]?=some o∧t=row ops o:=by
 unfold tabs at h;rw [List.getElem?_map,Array.getElem?_toList] at h;cases ho:ops[j]? with
 | none=>rw [ho] at h;cases h
 | some o=>rw [ho] at h;exact ⟨o,rfl,(Option.some.inj h).symm⟩
theorem WG {ops:Array Oper} {o:Oper} {k:Nat}:(row ops o).A.testBit k=true↔∃ e∈o.after,Region.binds .any e=true∧e.on=k:=by show (bitsOf _).testBit k=true↔_;rw [oo];simp only [List.mem_map,List.mem_filter,Array.mem_toList_iff];exact ⟨fun ⟨e,⟨h1,h2⟩,h3⟩=>⟨e,h1,h2,h3⟩,fun ⟨e,h1,h2,h3⟩=>⟨e,⟨h1,h2⟩,h3⟩⟩
theorem OO {d:Nat}:(dm (some d)).testBit d=true:=by show (Nat.shiftLeft 1 d).testBit d=true;rw [sO];simp
theorem WH {ops:Array Oper} {x y:Oper} (h1:Nat.beq (Nat.land (row ops x).D (Nat.lor (row ops y).L (row ops y).D)) 0=true) (h2:Nat.beq (Nat.land (row ops y).D (row ops x).L) 0=true):x.apart ops y=true:=by
 unfold Oper.apart;rw [Bool.and_eq_true];constructor
 · cases hx:x.dst with
   | none=>rfl
   | some d =>
    have hb:(row ops x).D.testBit d=true:=(by show (dm x.dst).testBit d=true;rw [hx];exact OO);have h3:=I6 h1 d hb;have h4:(Nat.lor (row ops y).L (row ops y).D).testBit d=((row ops y).L.testBit d||(row ops y).D.testBit d):=Nat.testBit_or _ _ _;rw [h4,Bool.or_eq_false_iff] at h3;have h5:d∉y.looksAt ops:=fun hm=>by have:=(oo d (y.looksAt ops)).2 hm;have e:(row ops y).L.testBit d=true:=this;rw [e] at h3;exact absurd h3.1 (by simp)
    have h6:y.dst≠some d:=fun hd=>by have e:(row ops y).D.testBit d=true:=(by show (dm y.dst).testBit d=true;rw [hd];exact OO);rw [e] at h3;exact absurd h3.2 (by simp)
    simp [h5,h6]
 · cases hy:y.dst with
   | none=>rfl
   | some d =>
    have hb:(row ops y).D.testBit d=true:=(by show (dm y.dst).testBit d=true;rw [hy];exact OO);have h3:=I6 h2 d hb;have h5:d∉x.looksAt ops:=fun hm=>by have:=(oo d (x.looksAt ops)).2 hm;have e:(row ops x).L.testBit d=true:=this;rw [e] at h3;exact absurd h3 (by simp)
    simp [h5]
section
variable {P:Program} {ops:Array Oper} {Q:Exit→Act→World→Prop} {S:World→Prop}
theorem nH {n M:Nat} {listed:Array Bool} (hL:WE ops.size M listed) {j:Nat}:j∈Region.ready .any ops listed↔∃ o,ops[j]?=some o∧M.testBit j=false∧Nat.beq (Nat.land (row ops o).A M) (row ops o).A=true:=by
 rw [mem_ready];constructor
 · rintro ⟨h1,o,ho,h⟩;have hj:j<ops.size:=(Array.getElem?_eq_some_iff.1 ho).1;refine ⟨o,ho,(hL.t hj).symm.trans h1,MN fun k hk=>?_⟩;obtain ⟨e,he,hb,rfl⟩:=WG.1 hk;exact (hL.2 _).symm.trans (h e he hb)
 · rintro ⟨o,ho,h1,h⟩;have hj:j<ops.size:=(Array.getElem?_eq_some_iff.1 ho).1;exact ⟨(hL.t hj).trans h1,o,ho,fun e he hb=>(hL.2 _).trans (MM h _ (WG.2 ⟨e,he,hb,rfl⟩))⟩
def QH (M:Nat) (rs:List Nat):List Tb→Nat→Bool
 | [],_=>true
 | t::l,j=>(rs.elem j||tb M j||!(Nat.beq (Nat.land t.A M) t.A))&&QH M rs l (j+1)
def QI (T:List Tb) (M i:Nat):Bool:=match T[i]? with
 | none=>false
 | some t=>!(tb M i)&&Nat.beq (Nat.land t.A M) t.A
def WI (T:List Tb) (M:Nat) (rs:List Nat):Bool:=QH M rs T 0&&(match rs with
 | []=>false
 | i::_=>QI T M i)
theorem Gq {M:Nat} {rs:List Nat}:∀ (l:List Tb) (j:Nat),QH M rs l j=true→∀ (k:Nat) (t:Tb),l[k]?=some t→M.testBit (j+k)=false→Nat.beq (Nat.land t.A M) t.A=true→j+k∈rs
 | [],_,_,k,t,h,_,_=>by simp at h
 | x::l,j,h,k,t,hk,hM,hA=>by
  rw [QH,Bool.and_eq_true] at h;cases k with
  | zero =>obtain rfl:x=t:=(by simpa using hk);rw [Nat.add_zero] at hM ⊢;have h1:=h.1;rw [kV,hM,hA,Bool.or_false,Bool.not_true,Bool.or_false] at h1;simpa using h1
  | succ k =>have hs:j+(k+1)=(j+1)+k:=(by omega);rw [hs] at hM ⊢;exact Gq l (j+1) h.2 k t (by simpa using hk) hM hA
theorem OP {listed:Array Bool} (hL:WE ops.size (2^ops.size-1) listed):Region.ready .any ops listed=[]:=by
 cases hr:Region.ready .any ops listed with
 | nil=>rfl
 | cons j l =>
  have hj:j∈Region.ready .any ops listed:=by rw [hr];exact List.mem_cons_self
  obtain ⟨o,ho,h1,_⟩:=(nH (n:=0) hL).1 hj;have hlt:j<ops.size:=(Array.getElem?_eq_some_iff.1 ho).1;rw [Nat.testBit_two_pow_sub_one,decide_eq_true hlt] at h1;cases h1
end
def look:List (Nat × Value)→Nat→Option Value
 | [],_=>none
 | (d,v)::l,t=>match Nat.beq d t with
  | true=>some v
  | false=>look l t
def fO (l:List (Nat × Value)):Operand→Option Value
 | .tmp t=>look l t
 | .const v=>some v
 | .global g=>some (.pointer (some ⟨g,0,none⟩))
 | .func f=>some (.func (.func f) #[] #[])
def wo (l:List (Nat × Value)):List Operand→Option (List Value)
 | []=>some []
 | x::xs=>match fO l x with
  | none=>none
  | some v=>match wo l xs with
   | none=>none
   | some vs=>some (v::vs)
structure Cons (ρ:Operand→Value) (l:List (Nat × Value)):Prop where
 tmp:∀ t v,look l t=some v→ρ (.tmp t)=v
 const:∀ v,ρ (.const v)=v
 global:∀ g,ρ (.global g) = .pointer (some ⟨g,0,none⟩)
 func:∀ f,ρ (.func f) = .func (.func f) #[] #[]
theorem Cons.fO {ρ:Operand→Value} {l:List (Nat × Value)} (h:Cons ρ l) {x:Operand} {v:Value} (e:Pl.fO l x=some v):ρ x=v:=by
 cases x with
 | tmp t=>exact h.tmp t v e
 | const u=>rw [h.const];exact Option.some.inj e
 | global g=>rw [h.global];exact Option.some.inj e
 | func f=>rw [h.func];exact Option.some.inj e
theorem Cons.wo {ρ:Operand→Value} {l:List (Nat × Value)} (h:Cons ρ l):∀ {xs:List Operand} {vs:List Value},Pl.wo l xs=some vs→xs.map ρ=vs
 | [],vs,e=>by cases e;rfl
 | x::xs,vs,e=>by
  unfold Pl.wo at e;cases hx:Pl.fO l x with
  | none=>rw [hx] at e;cases e
  | some v =>
   rw [hx] at e;cases hxs:Pl.wo l xs with
   | none=>rw [hxs] at e;cases e
   | some us =>rw [hxs] at e;cases e;rw [List.map_cons,h.fO hx,h.wo hxs]
structure Ag (n:Nat) (ds:List Deferred) (a:Act) (l:List (Nat × Value)):Prop where
 size:a.tmps.size=n
 defers:a.defers=ds
 look:∀ t v,Pl.look l t=some v→a.tmps[t]?=some v
theorem Ag.put {n:Nat} {ds:List Deferred} {a:Act} {l:List (Nat × Value)} (h:Ag n ds a l) {d:Nat} (hd:d<n) (v:Value):Ag n ds (a.put (some d) v) ((d,v)::l) where
 size:=by show (a.tmps.setIfInBounds d v).size=n;rw [Array.size_setIfInBounds];exact h.size
 defers:=h.defers
 look t u hu:=by
  show (a.tmps.setIfInBounds d v)[t]?=some u;unfold Pl.look at hu;cases hb:Nat.beq d t with
  | true =>rw [hb] at hu;obtain rfl:d=t:=Nat.eq_of_beq_eq_true hb;rw [Array.getElem?_setIfInBounds_self_of_lt (by rw [h.size];exact hd)];exact hu
  | false =>rw [hb] at hu;rw [Array.getElem?_setIfInBounds_ne (Nat.ne_of_beq_eq_false hb)];exact h.look t u hu
theorem Ag.cons {n:Nat} {ds:List Deferred} {a:Act} {l:List (Nat × Value)} (h:Ag n ds a l):Cons a.eval l where
 tmp t v hv:=by
  show a.tmps.getD t undef=v;rw [Array.getD_eq_getD_getElem?,h.look t v hv];rfl
 const _:=rfl
 global _:=rfl
 func _:=rfl
theorem Ag.less {n:Nat} {ds:List Deferred} {a:Act} {l l':List (Nat × Value)} (h:Ag n ds a l) (hl:∀ t v,Pl.look l' t=some v→Pl.look l t=some v):Ag n ds a l':=⟨h.size,h.defers,fun t v hv=>h.look t v (hl t v hv)⟩
def nth:List Oper→Nat→Option Oper
 | [],_=>none
 | o::_,0=>some o
 | _::l,n+1=>nth l n
theorem tq:∀ (l:List Oper) (i:Nat),nth l i=l[i]?
 | [],_=>by simp [nth]
 | _::_,0=>by simp [nth]
 | _::l,n+1=>by simp only [nth,tq l n,List.getElem?_cons_succ]
def gd (L:List Oper) (l:List (Nat × Value)):Option (Nat × Bool)→Option Bool
 | none=>some true
 | some (j,b)=>match nth L j with
  | none=>none
  | some oj=>match oj.dst with
   | none=>none
   | some d=>match look l d with
    | some (.bool c)=>some (c==b)
    | some (.tuple _)=>some false
    | _=>none
theorem kM {L:List Oper} {n:Nat} {ds:List Deferred} {a:Act} {l:List (Nat × Value)} (hl:Ag n ds a l) {o:Oper} {b:Bool} (h:gd L l o.guard=some b):Region.wanted o (yielded L.toArray a.tmps)=b:=by
 unfold Region.wanted;cases hg:o.guard with
 | none=>rw [hg] at h;exact Option.some.inj h
 | some g =>
  obtain ⟨j,c⟩:=g;rw [hg] at h;unfold gd at h;dsimp only at h;show (yielded L.toArray a.tmps j==some c)=b;unfold yielded;rw [tq] at h;rw [List.getElem?_toArray];cases ho:L[j]? with
  | none=>rw [ho] at h;cases h
  | some oj =>
   rw [ho] at h;cases hd:oj.dst with
   | none=>simp only [hd] at h;cases h
   | some d =>
    simp only [hd] at h;cases hk:look l d with
    | none=>rw [hk] at h;cases h
    | some v =>rw [hk] at h;simp only [Option.bind_some,hd,hl.look d v hk];cases v<;>first | (cases h;done) | (cases h;rfl)
def uD (n:Nat):List Oper→Bool
 | []=>true
 | o::l=>(match o.dst with
  | some d=>Nat.blt d n
  | none=>true)&&uD n l
theorem mU {n:Nat}:∀ {L:List Oper},uD n L=true→∀ i o d,nth L i=some o→o.dst=some d→d<n
 | [],_,i,o,d,h,_=>by cases h
 | x::L,hk,i,o,d,h,hd=>by
  rw [uD,Bool.and_eq_true] at hk;cases i with
  | zero =>obtain rfl:x=o:=Option.some.inj h;have h1:=hk.1;rw [hd] at h1;exact Nat.lt_of_lt_of_le (Nat.lt_succ_self d) (Nat.le_of_ble_eq_true h1)
  | succ i=>exact mU hk.2 i o d h hd
section
variable {P:Program} {L:List Oper} {S:World→Prop} {K:List (Nat × Value)→World→Prop} {Q:Exit→Act→World→Prop} {n f:Nat} {ds:List Deferred}
def iP (P:Program) (L:List Oper) (S:World→Prop) (K:List (Nat × Value)→World→Prop):List (Bool × Nat × Nat)→List (Nat × Value)→World→Prop
 | [],l,w=>K l w
 | (k,i,_)::r,l,w=>∃ o,nth L i=some o ∧
  ((∃ d v,k=true∧o.dst=some d∧gd L l o.guard=some true∧(∀ ρ,Cons ρ l→∀ X,S X→(execOp ρ o).run P X = .ok (.value v) X)∧iP P L S K r ((d,v)::l) w)
  ∨ (∃ d,o.dst=some d∧gd L l o.guard=some false∧iP P L S K r ((d,undef)::l) w)
  ∨ (∃ d f vs,k=false∧o.dst=some d∧gd L l o.guard=some true∧(∀ ρ,Cons ρ l→(execOp ρ o).run P w = .ok (.enter f vs) w) ∧
   Calls P f vs w (fun e w'=>∃ v,e = .returned v∧S w'∧iP P L S K r ((d,v)::l) w'))
  ∨ (∃ d v w',k=false∧o.dst=some d∧gd L l o.guard=some true∧(∀ ρ,Cons ρ l→(execOp ρ o).run P w = .ok (.value v) w')∧S w'∧iP P L S K r ((d,v)::l) w')
  ∨ (∃ w',k=false∧o.dst=none∧gd L l o.guard=some true∧(∀ ρ,Cons ρ l→(execOp ρ o).run P w = .ok .skip w')∧S w'∧iP P L S K r l w'))
def G (P:Program) (L:List Oper) (S:World→Prop) (Q:Exit→Act→World→Prop) (n:Nat) (ds:List Deferred) (f M:Nat) (l:List (Nat × Value)) (w:World):Prop :=
 ∀ a listed,Ag n ds a l→WE L.toArray.size M listed→S w→wpAnyH P .any L.toArray Q S f listed a w
theorem Eu {k:Bool} {i m:Nat} {l:List (Nat × Value)} {w:World} {a:Act} {o:Oper} {R:Act→World→Prop} (hd:∀ d,o.dst=some d→d<n) (ho:nth L i=some o) (ha:Ag n ds a l) (hS:S w) (h:iP P L S K ((false,i,m)::[]) l w) (hR:∀ a l w,Ag n ds a l→S w→K l w→R a w):wpOp P L.toArray Q i (fun a' w'=>S w'∧R a' w') a w:=by
 obtain ⟨o',ho',h⟩:=h;obtain rfl:o=o':=Option.some.inj (ho.symm.trans ho');have hoi:L.toArray[i]?=some o:=by rw [List.getElem?_toArray,← tq];exact ho
 unfold wpOp;simp only [hoi];rcases h with ⟨d,v,h1,_⟩ | ⟨d,hdd,hg,h⟩ | ⟨d,f,vs,h1,hdd,hg,hx,h⟩ | ⟨d,v,w',h1,hdd,hg,hx,hS',h⟩ | ⟨w',h1,hdd,hg,hx,hS',h⟩
 · cases h1
 · rw [if_neg (by rw [kM ha hg];exact Bool.false_ne_true),hdd];exact ⟨hS,hR _ _ _ (ha.put (hd d hdd) _) hS h⟩
 · rw [if_pos (kM ha hg)];refine .inl ?_;unfold Oper.wp;rw [hx _ ha.cons,Oper.upon_enter];refine Calls.mono h fun e w' he=>?_;obtain ⟨v,rfl,hS',h⟩:=he;rw [hdd];exact ⟨hS',hR _ _ _ (ha.put (hd d hdd) _) hS' h⟩
 · rw [if_pos (kM ha hg)];refine .inl ?_;unfold Oper.wp;rw [hx _ ha.cons,Oper.upon_value,hdd];exact ⟨hS',hR _ _ _ (ha.put (hd d hdd) _) hS' h⟩
 · rw [if_pos (kM ha hg)];refine .inl ?_;unfold Oper.wp;rw [hx _ ha.cons,Oper.upon_skip,hdd];exact ⟨hS',hR _ _ _ ha hS' h⟩
theorem Kh {k:Bool} {i m:Nat} {r:List (Bool × Nat × Nat)} {l:List (Nat × Value)} {w:World} (h:iP P L S K ((k,i,m)::r) l w):iP P L S (iP P L S K r) ((k,i,m)::[]) l w:=h
theorem WJ (hs:Region.noSelect L.toArray=true) (hQ:∀ c (d:Option Tmp) v a w,Q (.panic c) (a.put d v) w→Q (.panic c) a w) (hd:∀ i o d,nth L i=some o→o.dst=some d→d<n) {e:Nat} :
  ∀ (r:List (Bool × Nat × Nat)) (M:Nat) (l:List (Nat × Value)) (w:World),Gp (tabs L.toArray) e r M=true→iP P L S (G P L S Q n ds f e) r l w→G P L S Q n ds (r.length+f) M l w
 | [],M,l,w,hp,h=>by obtain rfl:M=e:=(beq_iff _ _).1 hp;rw [List.length_nil,Nat.zero_add];exact h
 | (k,i,m)::r,M,l,w,hp,h=>by
  intro a listed ha hL hS;rw [Gp,Bool.and_eq_true,Bool.and_eq_true] at hp;obtain ⟨⟨hM,hp1⟩,hp2⟩:=hp;obtain rfl:M=m:=(beq_iff _ _).1 hM;cases ht:(tabs L.toArray)[i]? with
  | none=>rw [ht] at hp1;cases hp1
  | some t =>
   obtain ⟨o,ho,rfl⟩:=MO ht;rw [ht] at hp1;have hoi:nth L i=some o:=(by rw [tq,← List.getElem?_toArray];exact ho);have hlt:i<L.toArray.size:=(Array.getElem?_eq_some_iff.1 ho).1;simp only [Bool.and_eq_true,Bool.not_eq_true'] at hp1;obtain ⟨⟨hun,hA⟩,hk⟩:=hp1;rw [kV] at hun;have hin:i∈Region.ready .any L.toArray listed:=(nH (n:=0) hL).2 ⟨o,ho,hun,hA⟩;have hL':=hL.put hlt;have ih:∀ a l w,Ag n ds a l→S w→iP P L S (G P L S Q n ds f e) r l w→wpAnyH P .any L.toArray Q S (r.length+f) (listed.setIfInBounds i true) a w:=fun a l w ha hS h=>WJ hs hQ hd r _ l w hp2 h a _ ha hL' hS;rw [List.length_cons,show r.length+1+f=(r.length+f)+1 from by omega];cases k with
   | true =>
    have hfree:∀ j oj,L.toArray[j]?=some oj→j≠i→listed.getD j true=false→(∀ e∈oj.after,Region.binds .any e=true→e.on≠i)→o.apart L.toArray oj=true:=by
     intro j oj hj hne hl hno;have hjl:j<L.toArray.size:=(Array.getElem?_eq_some_iff.1 hj).1
     have JM:(row L.toArray oj).A.testBit i=false:=by
      cases hb:(row L.toArray oj).A.testBit i
      · rfl
      · obtain ⟨e,he,hbe,hon⟩:=WG.1 hb;exact absurd hon (hno e he hbe)
     obtain ⟨h1,h2⟩:=Dz (tabs L.toArray) 0 hk j _ (BA hj) (by rw [Nat.zero_add];exact hne) (by rw [Nat.zero_add,← hL.t hjl];exact hl) JM;exact WH h1 h2
    have go:∀ v,YieldsIf P L.toArray S o v a→wpAnyH P .any L.toArray Q S (r.length+f) (listed.setIfInBounds i true) (a.put o.dst v) w→wpAnyH P .any L.toArray Q S ((r.length+f)+1) listed a w:=fun v hy hh =>
     wpAnyH_first (v:=v) ho (Region.noSelect_spec hs) (fun c a w hq=>hQ c _ _ a w hq) (r.length+f) listed a w hfree hin hy hS hh
    obtain ⟨o',ho',h⟩:=h;obtain rfl:o=o':=Option.some.inj (hoi.symm.trans ho');rcases h with ⟨d,v,h1,hdd,hg,hy,h⟩ | ⟨d,hdd,hg,h⟩ | ⟨d,f',vs,h1,_⟩ | ⟨d,v,w',h1,_⟩ | ⟨w',h1,_⟩
    · exact go v (.inl ⟨kM ha hg,fun X hX=>hy _ ha.cons X hX⟩) (by rw [hdd];exact ih _ _ w (ha.put (hd i o d hoi hdd) v) hS h)
    · exact go undef (.inr ⟨kM ha hg,rfl⟩) (by rw [hdd];exact ih _ _ w (ha.put (hd i o d hoi hdd) undef) hS h)
    · cases h1
    · cases h1
    · cases h1
   | false =>refine ⟨fun h0=>(by rw [h0] at hin;cases hin),fun j hj=>?_⟩;have hji:j=i:=(by obtain ⟨oj,hoj,h1,h2⟩:=(nH (n:=0) hL).1 hj;refine Classical.byContradiction fun hne=>?_;have:=DC (tabs L.toArray) 0 hk j _ (BA hoj) (by rw [Nat.zero_add];exact hne) (by rw [Nat.zero_add];exact h1);rw [this] at h2;cases h2);subst hji;exact Eu (k:=false) (m:=M) (hd j o · hoi) hoi ha hS (Kh h) (fun a l w ha hS h=>ih a l w ha hS h)
def OQ (P:Program) (L:List Oper) (S:World→Prop) (Q:Exit→Act→World→Prop) (n:Nat) (ds:List Deferred) (f M:Nat) (l:List (Nat × Value)) (w:World):List Nat→Prop
 | []=>True
 | i::rs=>iP P L S (G P L S Q n ds f (Nat.lor M (Nat.shiftLeft 1 i))) ((false,i,M)::[]) l w∧OQ P L S Q n ds f M l w rs
theorem MP {M:Nat} {l:List (Nat × Value)} {w:World}:∀ {rs:List Nat},OQ P L S Q n ds f M l w rs→∀ i∈rs,iP P L S (G P L S Q n ds f (Nat.lor M (Nat.shiftLeft 1 i))) ((false,i,M)::[]) l w
 | [],_,i,hi=>by cases hi
 | j::rs,h,i,hi=>by
  rcases List.mem_cons.1 hi with rfl | hi
  · exact h.1
  · exact MP h.2 i hi
theorem aga (hd:∀ i o d,nth L i=some o→o.dst=some d→d<n) {M:Nat} {l:List (Nat × Value)} {w:World} (rs:List Nat) (hr:WI (tabs L.toArray) M rs=true) (h:OQ P L S Q n ds f M l w rs):G P L S Q n ds (f+1) M l w:=by
 intro a listed ha hL hS;unfold WI at hr;rw [Bool.and_eq_true] at hr;refine ⟨fun h0=>?_,fun j hj=>?_⟩
 · cases rs with
   | nil=>cases hr.2
   | cons i rs =>
    have h2:=hr.2;simp only [QI] at h2;cases ht:(tabs L.toArray)[i]? with
    | none=>rw [ht] at h2;cases h2
    | some t =>obtain ⟨o,ho,rfl⟩:=MO ht;rw [ht] at h2;simp only [Bool.and_eq_true,Bool.not_eq_true'] at h2;rw [kV] at h2;have hin:i∈Region.ready .any L.toArray listed:=(nH (n:=0) hL).2 ⟨o,ho,h2.1,h2.2⟩;grind
 · obtain ⟨o,ho,h1,h2⟩:=(nH (n:=0) hL).1 hj;have hoi:nth L j=some o:=(by rw [tq,← List.getElem?_toArray];exact ho);have hlt:j<L.toArray.size:=(Array.getElem?_eq_some_iff.1 ho).1;have hm:=Gq (tabs L.toArray) 0 hr.1 j _ (BA ho) (by rw [Nat.zero_add];exact h1) h2;rw [Nat.zero_add] at hm;exact Eu (k:=false) (m:=M) (hd j o · hoi) hoi ha hS (MP h j hm) (fun a l w ha hS h=>h a _ ha (hL.put hlt) hS)
theorem agb {l:List (Nat × Value)} {w:World} {M:Nat} (hM:Nat.beq M (Nat.sub (2^L.toArray.size) 1)=true) (h:S w→∀ a,Ag n ds a l→Q .normal a w):G P L S Q n ds f M l w:=by intro a listed ha hL hS;obtain rfl:M=2^L.toArray.size-1:=(beq_iff _ _).1 hM;exact wpAnyH_done (OP hL) (h hS a ha) f
def SC:Nat→List Oper→List (Bool × Nat × Nat)
 | _,[]=>[]
 | i,_::l=>(false,i,0)::SC (i+1) l
theorem MQ {L:List Oper} {o:Oper}:∀ {pre rest:List Oper},L=pre++o::rest→nth L pre.length=some o:=fun h=>by rw [tq,h];simp
theorem BC (hd:∀ i o d,nth L i=some o→o.dst=some d→d<n) :
  ∀ (rest pre:List Oper) (l:List (Nat × Value)) (w:World) (a:Act),L=pre++rest→Ag n ds a l→S w→iP P L S (fun l w=>∀ a,Ag n ds a l→Q .normal a w) (SC pre.length rest) l w→wpList P L.toArray Q rest a w
 | [],pre,l,w,a,_,ha,_,h=>h a ha
 | o::rest,pre,l,w,a,hL,ha,hS,h=>by
  have hoi:=MQ hL;have hL':L=(pre++[o])++rest:=by rw [hL];simp
  have hlen:(pre++[o]).length=pre.length+1:=by simp
  have h1:=Eu (k:=false) (m:=0) (Q:=Q) (R:=fun a w=>wpList P L.toArray Q rest a w) (hd _ o · hoi) hoi ha hS (Kh h)
   (fun a l w ha hS h=>BC hd rest (pre++[o]) l w a hL' ha hS (by rw [hlen];exact h))
  have hop:L.toArray[pre.length]?=some o:=by rw [List.getElem?_toArray,← tq];exact hoi
  unfold wpOp at h1;rw [hop] at h1;dsimp only at h1;unfold wpList;by_cases hw:Region.wanted o (yielded L.toArray a.tmps)=true
  · rw [if_pos hw] at h1 ⊢;rcases h1 with h1 | h1
    · exact .inl (Oper.wp_mono (fun a w h=>h.2) h1)
    · exact .inr h1
  · rw [if_neg hw] at h1 ⊢;exact h1.2
end
end Pl
section
open Go Go.RowKit
abbrev A0a (b:Nat):Value:=.pointer (some ⟨b,0,none⟩)
abbrev A0b (b p:Nat) (lo hi:Int):Value:=.agg #[.int .i64 ((b:Nat):Int),.int .i64 ((p:Nat):Int),.int .i64 lo,.int .i64 hi]
abbrev A0c (a b c d:Int):Value:=.agg #[.int .i64 a,.int .i64 b,.int .i64 c,.int .i64 d]
