/- Which orders a drawn region allows, by masks of bits. -/
import Derived.Deep.RegionHeld3
import Derived.BigCall
import Derived.Laws.AppendOwn
import Derived.Below
import Derived.Deep.MidRow
import Derived.Deep.WholeRow
import Derived.Laws.CopyOwn
import Derived.WalkKit
import Derived.Laws.EntriesVeiled
import Derived.Deep.AppendSrc
import Derived.Lib.AppendZeros
import Derived.Laws.IdiomStrings
import Derived.Laws.StructEq
set_option linter.all false
set_option maxHeartbeats 8000000
namespace Go.Proofs.YtgcieamfidoaoaaGreatDoor.Pl
open Go
set_option maxRecDepth 100000
def bitsOf:List Nat→Nat
 | []=>0
 | x::l=>Nat.lor (bitsOf l) (Nat.shiftLeft 1 x)
def tb (m j:Nat):Bool:=Nat.beq (Nat.land (Nat.shiftRight m j) 1) 1
theorem beq_iff (a b:Nat):Nat.beq a b=true↔a=b:=⟨Nat.eq_of_beq_eq_true,fun h=>by subst h;exact Nat.beq_refl _⟩
theorem jG (m j:Nat):tb m j=m.testBit j:=by
 have h2:=Nat.mod_two_eq_zero_or_one (m >>> j)
 have h:Nat.land (Nat.shiftRight m j) 1=(m >>> j)%2:=Nat.and_one_is_mod (m >>> j)
 unfold tb Nat.testBit
 rw [h,Nat.and_comm,Nat.and_one_is_mod]
 rcases h2 with h2 | h2<;>rw [h2]<;>rfl
theorem pX (x k:Nat):(Nat.shiftLeft 1 x).testBit k=decide (k=x):=by
 have h:Nat.shiftLeft 1 x=2^x:=by show 1 <<< x=2^x;rw [Nat.shiftLeft_eq,Nat.one_mul]
 rw [h,Nat.testBit_two_pow]
 by_cases e:x=k
 · subst e;simp
 · rw [decide_eq_false e,decide_eq_false (fun h=>e h.symm)]
theorem mD (k:Nat):∀ l:List Nat,(bitsOf l).testBit k=true↔k∈l
 | []=>by simp [bitsOf]
 | x::l=>by
  have h:(bitsOf (x::l)).testBit k=((bitsOf l).testBit k||(Nat.shiftLeft 1 x).testBit k):=Nat.testBit_or _ _ _
  rw [h,Bool.or_eq_true,mD k l,pX,decide_eq_true_eq,List.mem_cons,or_comm]
theorem I6 {a m:Nat} (h:Nat.beq (Nat.land a m) a=true) (k:Nat) (hk:a.testBit k=true):m.testBit k=true:=by
 have h:=(beq_iff _ _).1 h
 have h2:(Nat.land a m).testBit k=(a.testBit k&&m.testBit k):=Nat.testBit_and _ _ _
 rw [h,hk,Bool.true_and] at h2
 exact h2.symm
theorem I7 {a m:Nat} (h:∀ k,a.testBit k=true→m.testBit k=true):Nat.beq (Nat.land a m) a=true:=by
 rw [beq_iff]
 refine Nat.eq_of_testBit_eq fun k=>?_
 have h2:(Nat.land a m).testBit k=(a.testBit k&&m.testBit k):=Nat.testBit_and _ _ _
 rw [h2]
 cases hk:a.testBit k
 · rfl
 · rw [h k hk];rfl
theorem Ew {a m:Nat} (h:Nat.beq (Nat.land a m) 0=true) (k:Nat) (hk:a.testBit k=true):m.testBit k=false:=by
 have h:=(beq_iff _ _).1 h
 have h2:(Nat.land a m).testBit k=(a.testBit k&&m.testBit k):=Nat.testBit_and _ _ _
 rw [h,hk,Bool.true_and,Nat.zero_testBit] at h2
 exact h2.symm
structure Tb where
 A:Nat
 D:Nat
 L:Nat
def dm:Option Nat→Nat
 | some d=>Nat.shiftLeft 1 d
 | none=>0
def row (ops:Array Oper) (o:Oper):Tb:=⟨bitsOf ((o.after.toList.filter (Region.binds .any)).map (·.on)),dm o.dst,bitsOf (o.looksAt ops)⟩
def tabs (ops:Array Oper):List Tb:=ops.toList.map (row ops)
def FW (i D L M:Nat):List Tb→Nat→Bool
 | [],_=>true
 | t::l,j=>(Nat.beq j i||tb M j||tb t.A i||(Nat.beq (Nat.land D (Nat.lor t.L t.D)) 0&&Nat.beq (Nat.land t.D L) 0))&&FW i D L M l (j+1)
def FX (i M:Nat):List Tb→Nat→Bool
 | [],_=>true
 | t::l,j=>(Nat.beq j i||tb M j||!(Nat.beq (Nat.land t.A M) t.A))&&FX i M l (j+1)
def CG (T:List Tb) (e:Nat):List (Bool × Nat × Nat)→Nat→Bool
 | [],M=>Nat.beq M e
 | (k,i,m)::r,M=>Nat.beq M m&&(match T[i]? with
  | none=>false
  | some t=>!(tb m i)&&Nat.beq (Nat.land t.A m) t.A&&(match k with | true=>FW i t.D t.L m T 0 | false=>FX i m T 0))&&CG T e r (Nat.lor m (Nat.shiftLeft 1 i))
theorem Ae {i D L M:Nat}:∀ (l:List Tb) (j:Nat),FW i D L M l j=true→∀ (k:Nat) (t:Tb),l[k]?=some t→j+k≠i→M.testBit (j+k)=false→t.A.testBit i=false →
  Nat.beq (Nat.land D (Nat.lor t.L t.D)) 0=true∧Nat.beq (Nat.land t.D L) 0=true
 | [],_,_,k,t,h,_,_,_=>by simp at h
 | x::l,j,h,k,t,hk,hi,hM,hA=>by
  rw [FW,Bool.and_eq_true] at h
  cases k with
  | zero =>
   obtain rfl:x=t:=by simpa using hk
   rw [Nat.add_zero] at hi hM
   have h1:=h.1
   rw [jG,jG,hM,hA,Bool.or_false,Bool.or_false,Bool.or_eq_true,beq_iff,Bool.and_eq_true] at h1
   rcases h1 with h1 | h1
   · exact absurd h1 hi
   · exact h1
  | succ k =>
   have hs:j+(k+1)=(j+1)+k:=by omega
   rw [hs] at hi hM
   exact Ae l (j+1) h.2 k t (by simpa using hk) hi hM hA
theorem Af {i M:Nat}:∀ (l:List Tb) (j:Nat),FX i M l j=true→∀ (k:Nat) (t:Tb),l[k]?=some t→j+k≠i→M.testBit (j+k)=false→Nat.beq (Nat.land t.A M) t.A=false
 | [],_,_,k,t,h,_,_=>by simp at h
 | x::l,j,h,k,t,hk,hi,hM=>by
  rw [FX,Bool.and_eq_true] at h
  cases k with
  | zero =>
   obtain rfl:x=t:=by simpa using hk
   rw [Nat.add_zero] at hi hM
   have h1:=h.1
   rw [jG,hM,Bool.or_false,Bool.or_eq_true,beq_iff] at h1
   rcases h1 with h1 | h1
   · exact absurd h1 hi
   · simpa using h1
  | succ k =>
   have hs:j+(k+1)=(j+1)+k:=by omega
   rw [hs] at hi hM
   exact Af l (j+1) h.2 k t (by simpa using hk) hi hM
def RB (n M:Nat) (listed:Array Bool):Prop:=listed.size=n∧∀ j,listed.getD j false=M.testBit j
theorem RB.new (n:Nat):RB n 0 (Array.replicate n false):=⟨by simp,fun j=>by
 rw [Nat.zero_testBit,Array.getD_eq_getD_getElem?]
 by_cases h:j<n
 · simp [h]
 · simp [h]⟩
theorem RB.t {n M:Nat} {listed:Array Bool} (h:RB n M listed) {j:Nat} (hj:j<n):listed.getD j true=M.testBit j:=by
 rw [← h.2 j,Array.getD_eq_getD_getElem?,Array.getD_eq_getD_getElem?]
 have:j<listed.size:=by rw [h.1];exact hj
 simp [this]
theorem RB.put {n M:Nat} {listed:Array Bool} (h:RB n M listed) {i:Nat} (hi:i<n):RB n (Nat.lor M (Nat.shiftLeft 1 i)) (listed.setIfInBounds i true):=⟨by rw [Array.size_setIfInBounds];exact h.1,fun j=>by
 have h2:(Nat.lor M (Nat.shiftLeft 1 i)).testBit j=(M.testBit j||(Nat.shiftLeft 1 i).testBit j):=Nat.testBit_or _ _ _
 rw [h2,pX,← h.2 j,Array.getD_eq_getD_getElem?,Array.getD_eq_getD_getElem?]
 by_cases e:i=j
 · subst e
   have:i<listed.size:=by rw [h.1];exact hi
   simp [this]
 · rw [Array.getElem?_setIfInBounds_ne e]
   simp [show ¬ j=i from fun x=>e x.symm]⟩
theorem yh {ops:Array Oper} {j:Nat} {o:Oper} (h:ops[j]?=some o):(tabs ops)[j]?=some (row ops o):=by
 unfold tabs
 rw [List.getElem?_map,Array.getElem?_toList,h];rfl
theorem I8 {ops:Array Oper} {j:Nat} {t:Tb} (h:(tabs ops)[j]?=some t):∃ o,ops[j]?=some o∧t=row ops o:=by
 unfold tabs at h
 rw [List.getElem?_map,Array.getElem?_toList] at h
 cases ho:ops[j]? with
 | none=>rw [ho] at h;cases h
 | some o=>rw [ho] at h;exact ⟨o,rfl,(Option.some.inj h).symm⟩
theorem RD {ops:Array Oper} {o:Oper} {k:Nat}:(row ops o).A.testBit k=true↔∃ e∈o.after,Region.binds .any e=true∧e.on=k:=by
 show (bitsOf _).testBit k=true↔_
 rw [mD]
 simp only [List.mem_map,List.mem_filter,Array.mem_toList_iff]
 exact ⟨fun ⟨e,⟨h1,h2⟩,h3⟩=>⟨e,h1,h2,h3⟩,fun ⟨e,h1,h2,h3⟩=>⟨e,⟨h1,h2⟩,h3⟩⟩
theorem KH {d:Nat}:(dm (some d)).testBit d=true:=by show (Nat.shiftLeft 1 d).testBit d=true;rw [pX];simp
theorem RF {ops:Array Oper} {x y:Oper} (h1:Nat.beq (Nat.land (row ops x).D (Nat.lor (row ops y).L (row ops y).D)) 0=true) (h2:Nat.beq (Nat.land (row ops y).D (row ops x).L) 0=true):x.apart ops y=true:=by
 unfold Oper.apart
 rw [Bool.and_eq_true]
 constructor
 · cases hx:x.dst with
   | none=>rfl
   | some d =>
    have hb:(row ops x).D.testBit d=true:=by show (dm x.dst).testBit d=true;rw [hx];exact KH
    have h3:=Ew h1 d hb
    have h4:(Nat.lor (row ops y).L (row ops y).D).testBit d=((row ops y).L.testBit d||(row ops y).D.testBit d):=Nat.testBit_or _ _ _
    rw [h4,Bool.or_eq_false_iff] at h3
    have h5:d∉y.looksAt ops:=fun hm=>by
     have:=(mD d (y.looksAt ops)).2 hm
     have e:(row ops y).L.testBit d=true:=this
     rw [e] at h3;exact absurd h3.1 (by simp)
    have h6:y.dst≠some d:=fun hd=>by
     have e:(row ops y).D.testBit d=true:=by show (dm y.dst).testBit d=true;rw [hd];exact KH
     rw [e] at h3;exact absurd h3.2 (by simp)
    simp [h5,h6]
 · cases hy:y.dst with
   | none=>rfl
   | some d =>
    have hb:(row ops y).D.testBit d=true:=by show (dm y.dst).testBit d=true;rw [hy];exact KH
    have h3:=Ew h2 d hb
    have h5:d∉x.looksAt ops:=fun hm=>by
     have:=(mD d (x.looksAt ops)).2 hm
     have e:(row ops x).L.testBit d=true:=this
     rw [e] at h3;exact absurd h3 (by simp)
    simp [h5]
section
variable {P:Program} {ops:Array Oper} {Q:Exit→Act→World→Prop} {S:World→Prop}
theorem lQ {n M:Nat} {listed:Array Bool} (hL:RB ops.size M listed) {j:Nat}:j∈Region.ready .any ops listed↔∃ o,ops[j]?=some o∧M.testBit j=false∧Nat.beq (Nat.land (row ops o).A M) (row ops o).A=true:=by
 rw [mem_ready]
 constructor
 · rintro ⟨h1,o,ho,h⟩
   have hj:j<ops.size:=(Array.getElem?_eq_some_iff.1 ho).1
   refine ⟨o,ho,(hL.t hj).symm.trans h1,I7 fun k hk=>?_⟩
   obtain ⟨e,he,hb,rfl⟩:=RD.1 hk
   exact (hL.2 _).symm.trans (h e he hb)
 · rintro ⟨o,ho,h1,h⟩
   have hj:j<ops.size:=(Array.getElem?_eq_some_iff.1 ho).1
   exact ⟨(hL.t hj).trans h1,o,ho,fun e he hb=>(hL.2 _).trans (I6 h _ (RD.2 ⟨e,he,hb,rfl⟩))⟩
def MB (M:Nat) (rs:List Nat):List Tb→Nat→Bool
 | [],_=>true
 | t::l,j=>(rs.elem j||tb M j||!(Nat.beq (Nat.land t.A M) t.A))&&MB M rs l (j+1)
def MC (T:List Tb) (M i:Nat):Bool:=match T[i]? with
 | none=>false
 | some t=>!(tb M i)&&Nat.beq (Nat.land t.A M) t.A
def RG (T:List Tb) (M:Nat) (rs:List Nat):Bool:=MB M rs T 0&&(match rs with
 | []=>false
 | i::_=>MC T M i)
theorem CJ {M:Nat} {rs:List Nat}:∀ (l:List Tb) (j:Nat),MB M rs l j=true→∀ (k:Nat) (t:Tb),l[k]?=some t→M.testBit (j+k)=false→Nat.beq (Nat.land t.A M) t.A=true→j+k∈rs
 | [],_,_,k,t,h,_,_=>by simp at h
 | x::l,j,h,k,t,hk,hM,hA=>by
  rw [MB,Bool.and_eq_true] at h
  cases k with
  | zero =>
   obtain rfl:x=t:=by simpa using hk
   rw [Nat.add_zero] at hM ⊢
   have h1:=h.1
   rw [jG,hM,hA,Bool.or_false,Bool.not_true,Bool.or_false] at h1
   simpa using h1
  | succ k =>
   have hs:j+(k+1)=(j+1)+k:=by omega
   rw [hs] at hM ⊢
   exact CJ l (j+1) h.2 k t (by simpa using hk) hM hA
theorem KI {listed:Array Bool} (hL:RB ops.size (2^ops.size-1) listed):Region.ready .any ops listed=[]:=by
 cases hr:Region.ready .any ops listed with
 | nil=>rfl
 | cons j l =>
  have hj:j∈Region.ready .any ops listed:=by rw [hr];exact List.mem_cons_self
  obtain ⟨o,ho,h1,_⟩:=(lQ (n:=0) hL).1 hj
  have hlt:j<ops.size:=(Array.getElem?_eq_some_iff.1 ho).1
  rw [Nat.testBit_two_pow_sub_one,decide_eq_true hlt] at h1
  cases h1
end
end Go.Proofs.YtgcieamfidoaoaaGreatDoor.Pl
/- A region walked by a plan, its frame a list of what is known of it. -/
namespace Go.Proofs.YtgcieamfidoaoaaGreatDoor.Pl
open Go
set_option maxRecDepth 100000
def look:List (Nat × Value)→Nat→Option Value
 | [],_=>none
 | (d,v)::l,t=>match Nat.beq d t with
  | true=>some v
  | false=>look l t
def dK (l:List (Nat × Value)):Operand→Option Value
 | .tmp t=>look l t
 | .const v=>some v
 | .global g=>some (.pointer (some ⟨g,0,none⟩))
 | .func f=>some (.func (.func f) #[] #[])
def sw (l:List (Nat × Value)):List Operand→Option (List Value)
 | []=>some []
 | x::xs=>match dK l x with
  | none=>none
  | some v=>match sw l xs with
   | none=>none
   | some vs=>some (v::vs)
structure Cons (ρ:Operand→Value) (l:List (Nat × Value)):Prop where
 tmp:∀ t v,look l t=some v→ρ (.tmp t)=v
 const:∀ v,ρ (.const v)=v
 global:∀ g,ρ (.global g) = .pointer (some ⟨g,0,none⟩)
 func:∀ f,ρ (.func f) = .func (.func f) #[] #[]
theorem Cons.dK {ρ:Operand→Value} {l:List (Nat × Value)} (h:Cons ρ l) {x:Operand} {v:Value} (e:Pl.dK l x=some v):ρ x=v:=by
 cases x with
 | tmp t=>exact h.tmp t v e
 | const u=>rw [h.const];exact Option.some.inj e
 | global g=>rw [h.global];exact Option.some.inj e
 | func f=>rw [h.func];exact Option.some.inj e
theorem Cons.sw {ρ:Operand→Value} {l:List (Nat × Value)} (h:Cons ρ l):∀ {xs:List Operand} {vs:List Value},Pl.sw l xs=some vs→xs.map ρ=vs
 | [],vs,e=>by cases e;rfl
 | x::xs,vs,e=>by
  unfold Pl.sw at e
  cases hx:Pl.dK l x with
  | none=>rw [hx] at e;cases e
  | some v =>
   rw [hx] at e
   cases hxs:Pl.sw l xs with
   | none=>rw [hxs] at e;cases e
   | some us =>
    rw [hxs] at e
    cases e
    rw [List.map_cons,h.dK hx,h.sw hxs]
structure Ag (n:Nat) (ds:List Deferred) (a:Act) (l:List (Nat × Value)):Prop where
 size:a.tmps.size=n
 defers:a.defers=ds
 look:∀ t v,Pl.look l t=some v→a.tmps[t]?=some v
theorem Ag.put {n:Nat} {ds:List Deferred} {a:Act} {l:List (Nat × Value)} (h:Ag n ds a l) {d:Nat} (hd:d<n) (v:Value):Ag n ds (a.put (some d) v) ((d,v)::l) where
 size:=by show (a.tmps.setIfInBounds d v).size=n;rw [Array.size_setIfInBounds];exact h.size
 defers:=h.defers
 look t u hu:=by
  show (a.tmps.setIfInBounds d v)[t]?=some u
  unfold Pl.look at hu
  cases hb:Nat.beq d t with
  | true =>
   rw [hb] at hu
   obtain rfl:d=t:=Nat.eq_of_beq_eq_true hb
   rw [Array.getElem?_setIfInBounds_self_of_lt (by rw [h.size];exact hd)]
   exact hu
  | false =>
   rw [hb] at hu
   rw [Array.getElem?_setIfInBounds_ne (Nat.ne_of_beq_eq_false hb)]
   exact h.look t u hu
theorem Ag.cons {n:Nat} {ds:List Deferred} {a:Act} {l:List (Nat × Value)} (h:Ag n ds a l):Cons a.eval l where
 tmp t v hv:=by
  show a.tmps.getD t undef=v
  rw [Array.getD_eq_getD_getElem?,h.look t v hv];rfl
 const _:=rfl
 global _:=rfl
 func _:=rfl
theorem Ag.less {n:Nat} {ds:List Deferred} {a:Act} {l l':List (Nat × Value)} (h:Ag n ds a l) (hl:∀ t v,Pl.look l' t=some v→Pl.look l t=some v):Ag n ds a l':=⟨h.size,h.defers,fun t v hv=>h.look t v (hl t v hv)⟩
def nth:List Oper→Nat→Option Oper
 | [],_=>none
 | o::_,0=>some o
 | _::l,n+1=>nth l n
theorem qd:∀ (l:List Oper) (i:Nat),nth l i=l[i]?
 | [],_=>by simp [nth]
 | _::_,0=>by simp [nth]
 | _::l,n+1=>by simp only [nth,qd l n,List.getElem?_cons_succ]
def gd (L:List Oper) (l:List (Nat × Value)):Option (Nat × Bool)→Option Bool
 | none=>some true
 | some (j,b)=>match nth L j with
  | none=>none
  | some oj=>match oj.dst with
   | none=>none
   | some d=>match look l d with
    | some (.bool c)=>some (c==b)
    | some (.tuple _)=>some false
    | _=>none
theorem jD {L:List Oper} {n:Nat} {ds:List Deferred} {a:Act} {l:List (Nat × Value)} (hl:Ag n ds a l) {o:Oper} {b:Bool} (h:gd L l o.guard=some b):Region.wanted o (yielded L.toArray a.tmps)=b:=by
 unfold Region.wanted
 cases hg:o.guard with
 | none=>rw [hg] at h;exact Option.some.inj h
 | some g =>
  obtain ⟨j,c⟩:=g
  rw [hg] at h
  unfold gd at h
  dsimp only at h
  show (yielded L.toArray a.tmps j==some c)=b
  unfold yielded
  rw [qd] at h
  rw [List.getElem?_toArray]
  cases ho:L[j]? with
  | none=>rw [ho] at h;cases h
  | some oj =>
   rw [ho] at h
   cases hd:oj.dst with
   | none=>simp only [hd] at h;cases h
   | some d =>
    simp only [hd] at h
    cases hk:look l d with
    | none=>rw [hk] at h;cases h
    | some v =>
     rw [hk] at h
     simp only [Option.bind_some,hd,hl.look d v hk]
     cases v<;>first | (cases h;done) | (cases h;rfl)
def rZ (n:Nat):List Oper→Bool
 | []=>true
 | o::l=>(match o.dst with
  | some d=>Nat.blt d n
  | none=>true)&&rZ n l
theorem lm {n:Nat}:∀ {L:List Oper},rZ n L=true→∀ i o d,nth L i=some o→o.dst=some d→d<n
 | [],_,i,o,d,h,_=>by cases h
 | x::L,hk,i,o,d,h,hd=>by
  rw [rZ,Bool.and_eq_true] at hk
  cases i with
  | zero =>
   obtain rfl:x=o:=Option.some.inj h
   have h1:=hk.1
   rw [hd] at h1
   exact Nat.lt_of_lt_of_le (Nat.lt_succ_self d) (Nat.le_of_ble_eq_true h1)
  | succ i=>exact lm hk.2 i o d h hd
section
variable {P:Program} {L:List Oper} {S:World→Prop} {K:List (Nat × Value)→World→Prop} {Q:Exit→Act→World→Prop} {n f:Nat} {ds:List Deferred}
def fF (P:Program) (L:List Oper) (S:World→Prop) (K:List (Nat × Value)→World→Prop):List (Bool × Nat × Nat)→List (Nat × Value)→World→Prop
 | [],l,w=>K l w
 | (k,i,_)::r,l,w=>∃ o,nth L i=some o ∧
  ((∃ d v,k=true∧o.dst=some d∧gd L l o.guard=some true∧(∀ ρ,Cons ρ l→∀ X,S X→(execOp ρ o).run P X = .ok (.value v) X)∧fF P L S K r ((d,v)::l) w)
  ∨ (∃ d,o.dst=some d∧gd L l o.guard=some false∧fF P L S K r ((d,undef)::l) w)
  ∨ (∃ d f vs,k=false∧o.dst=some d∧gd L l o.guard=some true∧(∀ ρ,Cons ρ l→(execOp ρ o).run P w = .ok (.enter f vs) w) ∧
   Calls P f vs w (fun e w'=>∃ v,e = .returned v∧S w'∧fF P L S K r ((d,v)::l) w'))
  ∨ (∃ d v w',k=false∧o.dst=some d∧gd L l o.guard=some true∧(∀ ρ,Cons ρ l→(execOp ρ o).run P w = .ok (.value v) w')∧S w'∧fF P L S K r ((d,v)::l) w')
  ∨ (∃ w',k=false∧o.dst=none∧gd L l o.guard=some true∧(∀ ρ,Cons ρ l→(execOp ρ o).run P w = .ok .skip w')∧S w'∧fF P L S K r l w'))
def G (P:Program) (L:List Oper) (S:World→Prop) (Q:Exit→Act→World→Prop) (n:Nat) (ds:List Deferred) (f M:Nat) (l:List (Nat × Value)) (w:World):Prop :=
 ∀ a listed,Ag n ds a l→RB L.toArray.size M listed→S w→wpAnyH P .any L.toArray Q S f listed a w
theorem Bp {k:Bool} {i m:Nat} {l:List (Nat × Value)} {w:World} {a:Act} {o:Oper} {R:Act→World→Prop} (hd:∀ d,o.dst=some d→d<n) (ho:nth L i=some o) (ha:Ag n ds a l) (hS:S w)
  (h:fF P L S K ((false,i,m)::[]) l w) (hR:∀ a l w,Ag n ds a l→S w→K l w→R a w):wpOp P L.toArray Q i (fun a' w'=>S w'∧R a' w') a w:=by
 obtain ⟨o',ho',h⟩:=h
 obtain rfl:o=o':=Option.some.inj (ho.symm.trans ho')
 have hoi:L.toArray[i]?=some o:=by rw [List.getElem?_toArray,← qd];exact ho
 unfold wpOp
 simp only [hoi]
 rcases h with ⟨d,v,h1,_⟩ | ⟨d,hdd,hg,h⟩ | ⟨d,f,vs,h1,hdd,hg,hx,h⟩ | ⟨d,v,w',h1,hdd,hg,hx,hS',h⟩ | ⟨w',h1,hdd,hg,hx,hS',h⟩
 · cases h1
 · rw [if_neg (by rw [jD ha hg];exact Bool.false_ne_true),hdd]
   exact ⟨hS,hR _ _ _ (ha.put (hd d hdd) _) hS h⟩
 · rw [if_pos (jD ha hg)]
   refine .inl ?_
   unfold Oper.wp
   rw [hx _ ha.cons,Oper.upon_enter]
   refine Calls.mono h fun e w' he=>?_
   obtain ⟨v,rfl,hS',h⟩:=he
   rw [hdd]
   exact ⟨hS',hR _ _ _ (ha.put (hd d hdd) _) hS' h⟩
 · rw [if_pos (jD ha hg)]
   refine .inl ?_
   unfold Oper.wp
   rw [hx _ ha.cons,Oper.upon_value,hdd]
   exact ⟨hS',hR _ _ _ (ha.put (hd d hdd) _) hS' h⟩
 · rw [if_pos (jD ha hg)]
   refine .inl ?_
   unfold Oper.wp
   rw [hx _ ha.cons,Oper.upon_skip,hdd]
   exact ⟨hS',hR _ _ _ ha hS' h⟩
theorem FY {k:Bool} {i m:Nat} {r:List (Bool × Nat × Nat)} {l:List (Nat × Value)} {w:World} (h:fF P L S K ((k,i,m)::r) l w):fF P L S (fF P L S K r) ((k,i,m)::[]) l w:=h
theorem RH (hs:Region.noSelect L.toArray=true) (hQ:∀ c (d:Option Tmp) v a w,Q (.panic c) (a.put d v) w→Q (.panic c) a w) (hd:∀ i o d,nth L i=some o→o.dst=some d→d<n) {e:Nat} :
  ∀ (r:List (Bool × Nat × Nat)) (M:Nat) (l:List (Nat × Value)) (w:World),CG (tabs L.toArray) e r M=true→fF P L S (G P L S Q n ds f e) r l w→G P L S Q n ds (r.length+f) M l w
 | [],M,l,w,hp,h=>by
  obtain rfl:M=e:=(beq_iff _ _).1 hp
  rw [List.length_nil,Nat.zero_add]
  exact h
 | (k,i,m)::r,M,l,w,hp,h=>by
  intro a listed ha hL hS
  rw [CG,Bool.and_eq_true,Bool.and_eq_true] at hp
  obtain ⟨⟨hM,hp1⟩,hp2⟩:=hp
  obtain rfl:M=m:=(beq_iff _ _).1 hM
  cases ht:(tabs L.toArray)[i]? with
  | none=>rw [ht] at hp1;cases hp1
  | some t =>
   obtain ⟨o,ho,rfl⟩:=I8 ht
   rw [ht] at hp1
   have hoi:nth L i=some o:=by rw [qd,← List.getElem?_toArray];exact ho
   have hlt:i<L.toArray.size:=(Array.getElem?_eq_some_iff.1 ho).1
   simp only [Bool.and_eq_true,Bool.not_eq_true'] at hp1
   obtain ⟨⟨hun,hA⟩,hk⟩:=hp1
   rw [jG] at hun
   have hin:i∈Region.ready .any L.toArray listed:=(lQ (n:=0) hL).2 ⟨o,ho,hun,hA⟩
   have hL':=hL.put hlt
   have ih:∀ a l w,Ag n ds a l→S w→fF P L S (G P L S Q n ds f e) r l w→wpAnyH P .any L.toArray Q S (r.length+f) (listed.setIfInBounds i true) a w:=fun a l w ha hS h=>RH hs hQ hd r _ l w hp2 h a _ ha hL' hS
   rw [List.length_cons,show r.length+1+f=(r.length+f)+1 from by omega]
   cases k with
   | true =>
    have hfree:∀ j oj,L.toArray[j]?=some oj→j≠i→listed.getD j true=false→(∀ e∈oj.after,Region.binds .any e=true→e.on≠i)→o.apart L.toArray oj=true:=by
     intro j oj hj hne hl hno
     have hjl:j<L.toArray.size:=(Array.getElem?_eq_some_iff.1 hj).1
     have JR:(row L.toArray oj).A.testBit i=false:=by
      cases hb:(row L.toArray oj).A.testBit i
      · rfl
      · obtain ⟨e,he,hbe,hon⟩:=RD.1 hb
        exact absurd hon (hno e he hbe)
     obtain ⟨h1,h2⟩:=Ae (tabs L.toArray) 0 hk j _ (yh hj) (by rw [Nat.zero_add];exact hne) (by rw [Nat.zero_add,← hL.t hjl];exact hl) JR
     exact RF h1 h2
    have go:∀ v,YieldsIf P L.toArray S o v a→wpAnyH P .any L.toArray Q S (r.length+f) (listed.setIfInBounds i true) (a.put o.dst v) w→wpAnyH P .any L.toArray Q S ((r.length+f)+1) listed a w:=fun v hy hh =>
     wpAnyH_first (v:=v) ho (Region.noSelect_spec hs) (fun c a w hq=>hQ c _ _ a w hq) (r.length+f) listed a w hfree hin hy hS hh
    obtain ⟨o',ho',h⟩:=h
    obtain rfl:o=o':=Option.some.inj (hoi.symm.trans ho')
    rcases h with ⟨d,v,h1,hdd,hg,hy,h⟩ | ⟨d,hdd,hg,h⟩ | ⟨d,f',vs,h1,_⟩ | ⟨d,v,w',h1,_⟩ | ⟨w',h1,_⟩
    · exact go v (.inl ⟨jD ha hg,fun X hX=>hy _ ha.cons X hX⟩) (by rw [hdd];exact ih _ _ w (ha.put (hd i o d hoi hdd) v) hS h)
    · exact go undef (.inr ⟨jD ha hg,rfl⟩) (by rw [hdd];exact ih _ _ w (ha.put (hd i o d hoi hdd) undef) hS h)
    · cases h1
    · cases h1
    · cases h1
   | false =>
    refine ⟨fun h0=>(by rw [h0] at hin;cases hin),fun j hj=>?_⟩
    have hji:j=i:=by
     obtain ⟨oj,hoj,h1,h2⟩:=(lQ (n:=0) hL).1 hj
     refine Classical.byContradiction fun hne=>?_
     have:=Af (tabs L.toArray) 0 hk j _ (yh hoj) (by rw [Nat.zero_add];exact hne) (by rw [Nat.zero_add];exact h1)
     rw [this] at h2;cases h2
    subst hji
    exact Bp (k:=false) (m:=M) (hd j o · hoi) hoi ha hS (FY h) (fun a l w ha hS h=>ih a l w ha hS h)
def KJ (P:Program) (L:List Oper) (S:World→Prop) (Q:Exit→Act→World→Prop) (n:Nat) (ds:List Deferred) (f M:Nat) (l:List (Nat × Value)) (w:World):List Nat→Prop
 | []=>True
 | i::rs=>fF P L S (G P L S Q n ds f (Nat.lor M (Nat.shiftLeft 1 i))) ((false,i,M)::[]) l w∧KJ P L S Q n ds f M l w rs
theorem I9 {M:Nat} {l:List (Nat × Value)} {w:World}:∀ {rs:List Nat},KJ P L S Q n ds f M l w rs→∀ i∈rs,fF P L S (G P L S Q n ds f (Nat.lor M (Nat.shiftLeft 1 i))) ((false,i,M)::[]) l w
 | [],_,i,hi=>by cases hi
 | j::rs,h,i,hi=>by
  rcases List.mem_cons.1 hi with rfl | hi
  · exact h.1
  · exact I9 h.2 i hi
theorem ach (hd:∀ i o d,nth L i=some o→o.dst=some d→d<n) {M:Nat} {l:List (Nat × Value)} {w:World} (rs:List Nat) (hr:RG (tabs L.toArray) M rs=true) (h:KJ P L S Q n ds f M l w rs):G P L S Q n ds (f+1) M l w:=by
 intro a listed ha hL hS
 unfold RG at hr
 rw [Bool.and_eq_true] at hr
 refine ⟨fun h0=>?_,fun j hj=>?_⟩
 · cases rs with
   | nil=>cases hr.2
   | cons i rs =>
    have h2:=hr.2
    simp only [MC] at h2
    cases ht:(tabs L.toArray)[i]? with
    | none=>rw [ht] at h2;cases h2
    | some t =>
     obtain ⟨o,ho,rfl⟩:=I8 ht
     rw [ht] at h2
     simp only [Bool.and_eq_true,Bool.not_eq_true'] at h2
     rw [jG] at h2
     have hin:i∈Region.ready .any L.toArray listed:=(lQ (n:=0) hL).2 ⟨o,ho,h2.1,h2.2⟩
     rw [h0] at hin;cases hin
 · obtain ⟨o,ho,h1,h2⟩:=(lQ (n:=0) hL).1 hj
   have hoi:nth L j=some o:=by rw [qd,← List.getElem?_toArray];exact ho
   have hlt:j<L.toArray.size:=(Array.getElem?_eq_some_iff.1 ho).1
   have hm:=CJ (tabs L.toArray) 0 hr.1 j _ (yh ho) (by rw [Nat.zero_add];exact h1) h2
   rw [Nat.zero_add] at hm
   exact Bp (k:=false) (m:=M) (hd j o · hoi) hoi ha hS (I9 h j hm) (fun a l w ha hS h=>h a _ ha (hL.put hlt) hS)
theorem aci {l:List (Nat × Value)} {w:World} {M:Nat} (hM:Nat.beq M (Nat.sub (2^L.toArray.size) 1)=true) (h:S w→∀ a,Ag n ds a l→Q .normal a w):G P L S Q n ds f M l w:=by
 intro a listed ha hL hS
 obtain rfl:M=2^L.toArray.size-1:=(beq_iff _ _).1 hM
 exact wpAnyH_done (KI hL) (h hS a ha) f
def Py:Nat→List Oper→List (Bool × Nat × Nat)
 | _,[]=>[]
 | i,_::l=>(false,i,0)::Py (i+1) l
theorem Ja {L:List Oper} {o:Oper}:∀ {pre rest:List Oper},L=pre++o::rest→nth L pre.length=some o:=fun h=>by
 rw [qd,h];simp
theorem yj (hd:∀ i o d,nth L i=some o→o.dst=some d→d<n) :
  ∀ (rest pre:List Oper) (l:List (Nat × Value)) (w:World) (a:Act),L=pre++rest→Ag n ds a l→S w→fF P L S (fun l w=>∀ a,Ag n ds a l→Q .normal a w) (Py pre.length rest) l w→wpList P L.toArray Q rest a w
 | [],pre,l,w,a,_,ha,_,h=>h a ha
 | o::rest,pre,l,w,a,hL,ha,hS,h=>by
  have hoi:=Ja hL
  have hL':L=(pre++[o])++rest:=by rw [hL];simp
  have hlen:(pre++[o]).length=pre.length+1:=by simp
  have h1:=Bp (k:=false) (m:=0) (Q:=Q) (R:=fun a w=>wpList P L.toArray Q rest a w) (hd _ o · hoi) hoi ha hS (FY h)
   (fun a l w ha hS h=>yj hd rest (pre++[o]) l w a hL' ha hS (by rw [hlen];exact h))
  have hop:L.toArray[pre.length]?=some o:=by rw [List.getElem?_toArray,← qd];exact hoi
  unfold wpOp at h1
  rw [hop] at h1
  dsimp only at h1
  unfold wpList
  by_cases hw:Region.wanted o (yielded L.toArray a.tmps)=true
  · rw [if_pos hw] at h1 ⊢
    rcases h1 with h1 | h1
    · exact .inl (Oper.wp_mono (fun a w h=>h.2) h1)
    · exact .inr h1
  · rw [if_neg hw] at h1 ⊢
    exact h1.2
end
end Go.Proofs.YtgcieamfidoaoaaGreatDoor.Pl
/- A function without loops, walked with its frame as a list of what is known. -/
namespace Go.Proofs.YtgcieamfidoaoaaGreatDoor.Pl
open Go
set_option maxRecDepth 100000
def Ks (P:Program) (Q:Exit→Act→World→Prop):List Code→Exit→Act→World→Prop
 | []=>Q
 | c::cs=>Exit.then (c.wp P (Ks P Q cs)) (Ks P Q cs)
def V (P:Program) (Q:Exit→Act→World→Prop) (n:Nat) (ds:List Deferred) (cs:List Code) (l:List (Nat × Value)) (w:World):Prop :=
 ∀ a,Ag n ds a l→Ks P Q cs .normal a w
section
variable {P:Program} {Q:Exit→Act→World→Prop} {n:Nat} {ds:List Deferred} {cs:List Code} {l:List (Nat × Value)} {w:World} {x y:Code}
theorem eD:∀ {cs:List Code} {a:Act} {w:World},Q .ret a w→Ks P Q cs .ret a w
 | [],_,_,h=>h
 | _::cs,_,_,h=>eD (cs:=cs) h
theorem tX:∀ {cs:List Code} {c:_} {a:Act} {w:World},Ks P Q cs (.panic c) a w↔Q (.panic c) a w
 | [],_,_,_=>Iff.rfl
 | _::cs,_,_,_=>tX (cs:=cs)
theorem aG (h:V P Q n ds (x::y::cs) l w):V P Q n ds (.seq x y::cs) l w:=fun a ha=>wp_seq (h a ha)
theorem iT (h:V P Q n ds cs l w):V P Q n ds (.skip::cs) l w:=fun a ha=>wp_skip (h a ha)
theorem jV {c:Operand} (hc:dK l c=some (.bool true)) (h:V P Q n ds (x::cs) l w):V P Q n ds (.cond c x y::cs) l w:=fun a ha=>wp_cond_true (ha.cons.dK hc) (h a ha)
theorem gX {c:Operand} (hc:dK l c=some (.bool false)) (h:V P Q n ds (y::cs) l w):V P Q n ds (.cond c x y::cs) l w:=fun a ha=>wp_cond_false (ha.cons.dK hc) (h a ha)
theorem Ah (h:∀ a,Ag n ds a l→Q .ret a w):V P Q n ds (.ret::cs) l w:=fun a ha=>wp_ret (eD (h a ha))
theorem Ch {l':List (Nat × Value)} (hl:∀ t v,look l' t=some v→look l t=some v) (h:V P Q n ds cs l' w):V P Q n ds cs l w:=fun a ha=>h a (ha.less hl)
def KL (l:List (Nat × Value)):List (Nat × Value)→Prop
 | []=>True
 | (d,v)::l'=>look l d=some v∧KL l l'
theorem zw {l:List (Nat × Value)}:∀ {l':List (Nat × Value)},KL l l'→∀ t v,look l' t=some v→look l t=some v
 | [],_,t,v,h=>by cases h
 | (d,u)::l',hs,t,v,h=>by
  unfold look at h
  cases hb:Nat.beq d t with
  | true =>
   rw [hb] at h
   obtain rfl:d=t:=Nat.eq_of_beq_eq_true hb
   cases h
   exact hs.1
  | false =>
   rw [hb] at h
   exact zw hs.2 t v h
theorem lM (l':List (Nat × Value)) (hl:KL l l') (h:V P Q n ds cs l' w):V P Q n ds cs l w:=Ch (zw hl) h
theorem dQ:KL l []:=trivial
theorem aj {d:Nat} {v:Value} {l':List (Nat × Value)} (h:look l d=some v) (hs:KL l l'):KL l ((d,v)::l'):=⟨h,hs⟩
theorem Jb {L:List Oper} {S:World→Prop} {f M:Nat}:KJ P L S Q n ds f M l w []:=trivial
theorem uR {L:List Oper} {S:World→Prop} {f M i:Nat} {rs:List Nat} (h:fF P L S (G P L S Q n ds f (Nat.lor M (Nat.shiftLeft 1 i))) ((false,i,M)::[]) l w) (hs:KJ P L S Q n ds f M l w rs):KJ P L S Q n ds f M l w (i::rs):=⟨h,hs⟩
theorem Cx {c:Code} (R:List (Nat × Value)→World→Prop) (h1:∀ l' w',R l' w'→V P Q n ds cs l' w') (h2:(∀ l' w',R l' w'→V P Q n ds cs l' w')→V P Q n ds (c::cs) l w):V P Q n ds (c::cs) l w:=h2 h1
theorem nP {L:List Oper} {S:World→Prop} {K K':List (Nat × Value)→World→Prop} (hK:∀ l w,K l w→K' l w) :
  ∀ (r:List (Bool × Nat × Nat)) (l:List (Nat × Value)) (w:World),fF P L S K r l w→fF P L S K' r l w
 | [],l,w,h=>hK l w h
 | (k,i,m)::r,l,w,h=>by
  obtain ⟨o,ho,h⟩:=h
  refine ⟨o,ho,?_⟩
  rcases h with ⟨d,v,h1,hdd,hg,hy,h⟩ | ⟨d,hdd,hg,h⟩ | ⟨d,f,vs,h1,hdd,hg,hx,h⟩ | ⟨d,v,w',h1,hdd,hg,hx,hS,h⟩ | ⟨w',h1,hdd,hg,hx,hS,h⟩
  · exact .inl ⟨d,v,h1,hdd,hg,hy,nP hK r _ w h⟩
  · exact .inr (.inl ⟨d,hdd,hg,nP hK r _ w h⟩)
  · exact .inr (.inr (.inl ⟨d,f,vs,h1,hdd,hg,hx,Calls.mono h fun e w' ⟨v,he,hS,hh⟩=>⟨v,he,hS,nP hK r _ w' hh⟩⟩))
  · exact .inr (.inr (.inr (.inl ⟨d,v,w',h1,hdd,hg,hx,hS,nP hK r _ w' h⟩)))
  · exact .inr (.inr (.inr (.inr ⟨w',h1,hdd,hg,hx,hS,nP hK r _ w' h⟩)))
theorem G_V {L:List Oper} {S:World→Prop} {f M:Nat} (hM:Nat.beq M (Nat.sub (2^L.toArray.size) 1)=true) (h:V P Q n ds cs l w):G P L S (Ks P Q cs) n ds f M l w:=aci hM fun _=>h
theorem FZ {id:Nat} {L:List Oper} {S:World→Prop} (hm:P.follows .mixedOrders=true) (hS:S w.drew) (h:S w.drew→G P L S (Ks P Q cs) n ds L.toArray.size 0 l w.drew):V P Q n ds (.region id L.toArray true::cs) l w :=
 fun a ha=>wp_region_held hm (h hS a _ ha (RB.new _) hS)
def RI (n:Nat) (L:List Oper) (r:List (Bool × Nat × Nat)):Bool :=
 Region.noSelect L.toArray&&(CG (tabs L.toArray) (Nat.sub (2^L.toArray.size) 1) r 0&&(Nat.beq r.length L.toArray.size&&rZ n L))
theorem qc {id:Nat} {L:List Oper} {S:World→Prop} (r:List (Bool × Nat × Nat)) (hm:P.follows .mixedOrders=true)
  (hQ:∀ c (d:Option Tmp) v a w,Q (.panic c) (a.put d v) w→Q (.panic c) a w) (hk:RI n L r=true) (hS:S w.drew)
  (h:S w.drew→fF P L S (V P Q n ds cs) r l w.drew):V P Q n ds (.region id L.toArray true::cs) l w:=by
 rw [RI,Bool.and_eq_true,Bool.and_eq_true,Bool.and_eq_true] at hk
 refine FZ hm hS fun hS=>?_
 have:=RH (f:=0) hk.1 (fun c d v a w hq=>tX.2 (hQ c d v a w (tX.1 hq))) (lm hk.2.2.2) r 0 l w.drew hk.2.1 (nP (fun l w hx=>G_V (P:=P) (Q:=Q) (cs:=cs) (by rw [beq_iff]) hx) r l w.drew (h hS))
 rw [Nat.add_zero,(beq_iff _ _).1 hk.2.2.1] at this
 exact this
theorem aB {id:Nat} {L:List Oper} (hk:rZ n L=true)
  (h:fF P L (fun _=>True) (V P Q n ds cs) (Py 0 L) l w):V P Q n ds (.region id L.toArray false::cs) l w:=fun a ha =>
 wp_region_list (yj (S:=fun _=>True) (Q:=Ks P Q cs) (lm hk) L [] l w a rfl ha trivial h)
def CK (n:Nat) (L:List Oper):Bool:=Region.noSelect L.toArray&&rZ n L
theorem F3 {L:List Oper} {S:World→Prop} {M:Nat} (r:List (Bool × Nat × Nat)) (e f:Nat) {g:Nat} (hQ:∀ c (d:Option Tmp) v a w,Q (.panic c) (a.put d v) w→Q (.panic c) a w) (hk:CK n L=true) (hg:Nat.beq (Nat.add r.length f) g=true)
  (hp:CG (tabs L.toArray) e r M=true) (h:fF P L S (G P L S (Ks P Q cs) n ds f e) r l w):G P L S (Ks P Q cs) n ds g M l w:=by
 rw [CK,Bool.and_eq_true] at hk
 have:=RH (f:=f) hk.1 (fun c d v a w hq=>tX.2 (hQ c d v a w (tX.1 hq))) (lm hk.2) r M l w hp h
 rwa [show r.length+f=g from (beq_iff _ _).1 hg] at this
theorem Xg {L:List Oper} {S:World→Prop} {M:Nat} (rs:List Nat) (f:Nat) {g:Nat} (hk:CK n L=true) (hg:Nat.beq (Nat.succ f) g=true) (hr:RG (tabs L.toArray) M rs=true) (h:KJ P L S (Ks P Q cs) n ds f M l w rs):G P L S (Ks P Q cs) n ds g M l w:=by
 rw [CK,Bool.and_eq_true] at hk
 have:=ach (lm hk.2) rs hr h
 rwa [show f+1=g from (beq_iff _ _).1 hg] at this
theorem ko {id:Nat} {b:Code} (h:V P (Exit.inBlock id (Ks P Q cs)) n ds [b] l w):V P Q n ds (.block id b::cs) l w:=fun a ha=>wp_block (h a ha)
theorem iU {id:Nat} (h:V P Q n ds cs l w):V P (Exit.inBlock id (Ks P Q cs)) n ds [] l w:=fun a ha=>h a ha
theorem tO {id:Nat} {cs':List Code} {N:Act→World→Prop} (h:V P Q n ds cs l w):V P (Exit.then N (Ks P (Exit.inBlock id (Ks P Q cs)) [])) n ds (.exit id::cs') l w:=fun a ha=>wp_exit (by
 have e:∀ (Q':Exit→Act→World→Prop) (cs':List Code),Q' (.exit id) a w→Ks P Q' cs' (.exit id) a w:=fun Q' cs'=>by
  induction cs' with
  | nil=>exact fun h=>h
  | cons c cs' ih=>exact fun h=>ih h
 refine e _ _ ?_
 show (if id=id then Ks P Q cs .normal a w else _)
 rw [if_pos rfl]
 exact h a ha)
theorem least {p:Nat→Prop} (h:∃ k,p k):∃ k,p k∧∀ j,p j→k≤j:=by
 obtain ⟨k,hk⟩:=h
 induction k using Nat.strongRecOn with
 | _ k ih =>
  by_cases hj:∃ j,j<k∧p j
  · obtain ⟨j,h1,h2⟩:=hj;exact ih j h1 h2
  · exact ⟨k,hk,fun j hj'=>Nat.le_of_not_lt fun hlt=>hj ⟨j,hlt,hj'⟩⟩
open Classical in
theorem tN {c:Code} (I:Nat→List (Nat × Value)→World→Prop) (k:Nat) (h0:I k l w)
  (hs:∀ k l w,I k l w→V P (Exit.then (fun a' w'=>∃ k' l',k'<k∧Ag n ds a' l'∧I k' l' w') (Ks P Q cs)) n ds [c] l w):V P Q n ds (.loop c::cs) l w:=fun a ha=>by
 have key:∀ (a:Act) (w:World),(∃ k,∃ l,Ag n ds a l∧I k l w)→∃ k,(∃ l,Ag n ds a l∧I k l w)∧∀ j,(∃ l,Ag n ds a l∧I j l w)→k≤j:=fun a w h=>least h
 refine wp_loop (fun a w=>∃ k,∃ l,Ag n ds a l∧I k l w) (fun a w=>if h:∃ k,∃ l,Ag n ds a l∧I k l w then (key a w h).choose else 0) ⟨k,l,ha,h0⟩ fun a w h=>?_
 obtain ⟨⟨l,ha,hI⟩,hmin⟩:=(key a w h).choose_spec
 refine Code.wp_mono ?_ (hs _ l w hI a ha)
 intro e a' w' hq
 cases e with
 | normal =>
  obtain ⟨k',l',hlt,ha',hI'⟩:=hq
  have h':∃ k,∃ l,Ag n ds a' l∧I k l w':=⟨k',l',ha',hI'⟩
  refine ⟨h',?_⟩
  show (if h:∃ k,∃ l,Ag n ds a' l∧I k l w' then (key a' w' h).choose else 0)<(if h:∃ k,∃ l,Ag n ds a l∧I k l w then (key a w h).choose else 0)
  rw [dif_pos h',dif_pos h]
  exact Nat.lt_of_le_of_lt ((key a' w' h').choose_spec.2 k' ⟨l',ha',hI'⟩) hlt
 | _=>exact hq
theorem nD {I:Nat→List (Nat × Value)→World→Prop} {Q':Exit→Act→World→Prop} {k k':Nat} (l':List (Nat × Value)) (hs:KL l l') (hk:k'<k) (hI:I k' l' w) :
 V P (Exit.then (fun a' w'=>∃ k' l',k'<k∧Ag n ds a' l'∧I k' l' w') Q') n ds [] l w:=fun a ha=>⟨k',l',hk,ha.less (zw hs),hI⟩
def OD:Nat→List Value→List (Nat × Value)
 | _,[]=>[]
 | i,v::vs=>(i,v)::OD (i+1) vs
theorem zx {t:Nat} {v:Value}:∀ {vs:List Value} {i:Nat},look (OD i vs) t=some v→i≤t∧vs[t-i]?=some v
 | [],i,h=>by cases h
 | u::vs,i,h=>by
  unfold OD look at h
  cases hb:Nat.beq i t with
  | true =>
   rw [hb] at h
   obtain rfl:i=t:=Nat.eq_of_beq_eq_true hb
   rw [Nat.sub_self]
   exact ⟨Nat.le_refl _,h⟩
  | false =>
   rw [hb] at h
   obtain ⟨h1,h2⟩:=zx h
   refine ⟨by omega,?_⟩
   rw [show t-i=(t-(i+1))+1 from by omega]
   exact h2
theorem dF {f:FuncId} {fn:Func} {c:Code} {vs:List Value} {R:Ending→World→Prop} (hf:P.funcs[f]?=some fn) (hb:fn.body=some c) (hn:Nat.beq fn.ntmps n=true) (hle:Nat.ble vs.length n=true)
  (h:V P (bodyPost P fn R) n [] [c] (OD 0 vs) w):Calls P f vs.toArray w R:=by
 have hn':vs.length≤n:=Nat.le_of_ble_eq_true hle
 have hn2:fn.ntmps=n:=(beq_iff _ _).1 hn
 refine calls_of_wp hf hb (h _ ⟨?_,rfl,fun t v ht=>?_⟩)
 · rw [hn2];simp;omega
 · obtain ⟨_,hj⟩:=zx ht
   rw [Nat.sub_zero] at hj
   have hlt:t<vs.length:=(List.getElem?_eq_some_iff.1 hj).1
   show (vs.toArray++Array.replicate (fn.ntmps-vs.toArray.size) undef)[t]?=some v
   rw [Array.getElem?_append_left (by simpa using hlt)]
   simpa using hj
theorem iV {fn:Func} {R:Ending→World→Prop} {t:Tmp} {v:Value} (hr:fn.results=#[.tmp t]) (hv:look l t=some v) (h:R (.returned v) w) :
  V P (bodyPost P fn R) n [] (.ret::cs) l w:=Ah fun a ha=>by
 refine ⟨ha.defers,v,?_,h⟩
 unfold results
 rw [hr]
 have:a.tmps.getD t undef=v:=by rw [Array.getD_eq_getD_getElem?,ha.look t v hv];rfl
 simp only [List.mapM_toArray,List.mapM_cons,List.mapM_nil,this]
 rfl
theorem qE {fn:Func} {R:Ending→World→Prop} {t t2:Tmp} {v v2:Value} (hr:fn.results=#[.tmp t,.tmp t2]) (hv:look l t=some v) (hv2:look l t2=some v2) (h:R (.returned (.tuple #[v,v2])) w) :
  V P (bodyPost P fn R) n [] (.ret::cs) l w:=Ah fun a ha=>by
 refine ⟨ha.defers,.tuple #[v,v2],?_,h⟩
 unfold results
 rw [hr]
 have e1:a.tmps.getD t undef=v:=by rw [Array.getD_eq_getD_getElem?,ha.look t v hv];rfl
 have e2:a.tmps.getD t2 undef=v2:=by rw [Array.getD_eq_getD_getElem?,ha.look t2 v2 hv2];rfl
 simp only [List.mapM_toArray,List.mapM_cons,List.mapM_nil,e1,e2]
 rfl
theorem gQ {fn:Func} {R:Ending→World→Prop} (c:_) (d:Option Tmp) (v:Value) (a:Act) (w:World) (h:bodyPost P fn R (.panic c) (a.put d v) w):bodyPost P fn R (.panic c) a w:=by
 cases d<;>exact h
end
section
variable {P:Program} {L:List Oper} {S:World→Prop} {K:List (Nat × Value)→World→Prop} {k:Bool} {i m d:Nat} {o:Oper} {r:List (Bool × Nat × Nat)} {l:List (Nat × Value)} {w w':World} {v:Value}
theorem jP (ho:nth L i=some o) (hd:o.dst=some d) (hg:gd L l o.guard=some false) (h:fF P L S K r ((d,undef)::l) w):fF P L S K ((k,i,m)::r) l w:=⟨o,ho,.inr (.inl ⟨d,hd,hg,h⟩)⟩
theorem dI (s:Sem Value) (X:World) (h:s.run P X = .ok v X):(do pure (Next.value (← s)):Sem Next).run P X = .ok (.value v) X:=by
 show (s >>= fun u=>pure (Next.value u)).run P X=_
 rw [Sem.run_bind,h];rfl
theorem tV (s:Sem Value) {X X':World} (h:s.run P X = .ok v X'):(do pure (Next.value (← s)):Sem Next).run P X = .ok (.value v) X':=by
 show (s >>= fun u=>pure (Next.value u)).run P X=_
 rw [Sem.run_bind,h];rfl
theorem bX {f:FuncId} {xs:List Operand} {ats:Array TypeId} {vs:List Value} (ho:nth L i=some o) (hop:o.op = .call { callee:=.value (.func f),args:=xs.toArray,argTypes:=ats }) (hd:o.dst=some d)
  (hg:gd L l o.guard=some true) (hx:sw l xs=some vs) (hf:∀ (u:Array Value) X,(callFunc f u).run P X = .ok (.enter f u) X)
  (hc:Calls P f vs.toArray w (fun e w'=>∃ v,e = .returned v∧S w'∧fF P L S K r ((d,v)::l) w')):fF P L S K ((false,i,m)::r) l w :=
 ⟨o,ho,.inr (.inr (.inl ⟨d,f,vs.toArray,rfl,hd,hg,fun ρ hρ=>by
  unfold execOp
  rw [hop]
  show (resolve ρ _ _ >>= fun d=>invoke d.target d.args).run P w=_
  unfold resolve
  show (Deferred.ofValue (ρ (.func f)) (xs.toArray.map ρ) >>= fun d=>invoke d.target d.args).run P w=_
  rw [hρ.func]
  show (callFunc f ((#[]++xs.toArray.map ρ)++#[])).run P w=_
  have e:(#[]++xs.toArray.map ρ)++#[]=vs.toArray:=by rw [← hρ.sw hx];simp
  rw [e]
  exact hf _ w,hc⟩))⟩
theorem enters {f:FuncId} {fn:Func} {c:Code} (hf:P.funcs[f]?=some fn) (hname:(fn.name == "runtime.NumGoroutine")=false) (hb:fn.body=some c) (u:Array Value) (X:World):(callFunc f u).run P X = .ok (.enter f u) X:=by
 simp [callFunc,go_sem,hf,show ¬ fn.name = "runtime.NumGoroutine" from by simpa using hname,hb]
theorem kP (ho:nth L i=some o) (hd:o.dst=some d) (hg:gd L l o.guard=some true) (hx:∀ ρ,Cons ρ l→(execOp ρ o).run P w = .ok (.value v) w') (hS:S w')
 (h:fF P L S K r ((d,v)::l) w'):fF P L S K ((false,i,m)::r) l w:=⟨o,ho,.inr (.inr (.inr (.inl ⟨d,v,w',rfl,hd,hg,hx,hS,h⟩)))⟩
theorem RJ (ho:nth L i=some o) (hd:o.dst=none) (hg:gd L l o.guard=some true) (hx:∀ ρ,Cons ρ l→(execOp ρ o).run P w = .ok .skip w') (hS:S w')
 (h:fF P L S K r l w'):fF P L S K ((false,i,m)::r) l w:=⟨o,ho,.inr (.inr (.inr (.inr ⟨w',rfl,hd,hg,hx,hS,h⟩)))⟩
theorem Vm (ho:nth L i=some o) (hd:o.dst=some d) (hg:gd L l o.guard=some true) (hy:∀ ρ,Cons ρ l→∀ X,S X→(execOp ρ o).run P X = .ok (.value v) X)
 (h:fF P L S K r ((d,v)::l) w):fF P L S K ((true,i,m)::r) l w:=⟨o,ho,.inl ⟨d,v,rfl,hd,hg,hy,h⟩⟩
theorem fO (hS:S w) (ho:nth L i=some o) (hd:o.dst=some d) (hg:gd L l o.guard=some true) (hy:∀ ρ,Cons ρ l→∀ X,S X→(execOp ρ o).run P X = .ok (.value v) X)
  (h:fF P L S K r ((d,v)::l) w):fF P L S K ((k,i,m)::r) l w:=by
 cases k with
 | true=>exact Vm ho hd hg hy h
 | false=>exact kP ho hd hg (fun ρ hρ=>hy ρ hρ w hS) hS h
theorem az {x:Operand} (hS:S w) (ho:nth L i=some o) (hop:o.op = .move x) (hd:o.dst=some d) (hg:gd L l o.guard=some true) (hx:dK l x=some v)
 (h:fF P L S K r ((d,v)::l) w):fF P L S K ((k,i,m)::r) l w:=fO hS ho hd hg (fun ρ hρ X _=>by unfold execOp;rw [hop];show Result.ok (Next.value (ρ x)) X=_;rw [hρ.dK hx]) h
theorem aF {x:Operand} (hS:S w) (ho:nth L i=some o) (hop:o.op = .assign x) (hd:o.dst=some d) (hg:gd L l o.guard=some true) (hx:dK l x=some v)
 (h:fF P L S K r ((d,v)::l) w):fF P L S K ((k,i,m)::r) l w:=fO hS ho hd hg (fun ρ hρ X _=>by unfold execOp;rw [hop];show Result.ok (Next.value (ρ x)) X=_;rw [hρ.dK hx]) h
theorem ou {c x y:Operand} {b:Bool} (hS:S w) (ho:nth L i=some o) (hop:o.op = .pick c x y) (hd:o.dst=some d) (hg:gd L l o.guard=some true) (hc:dK l c=some (.bool b)) (hx:dK l (if b then x else y)=some v)
 (h:fF P L S K r ((d,v)::l) w):fF P L S K ((k,i,m)::r) l w:=fO hS ho hd hg (fun ρ hρ X _=>by
  unfold execOp;rw [hop]
  show (asBool (ρ c) >>= fun t=>pure (Next.value (if t then ρ x else ρ y))).run P X=_
  rw [hρ.dK hc,← hρ.dK hx]
  cases b<;>rfl) h
theorem iH {x:Operand} {ty:TypeId} {p:Value} (hS:S w) (ho:nth L i=some o) (hop:o.op = .load ty x) (hd:o.dst=some d) (hg:gd L l o.guard=some true) (hx:dK l x=some p)
  (hr:∀ X,S X→(Instr.loadAt ty p).run P X = .ok v X) (h:fF P L S K r ((d,v)::l) w):fF P L S K ((k,i,m)::r) l w :=
 fO hS ho hd hg (fun ρ hρ X hX=>by unfold execOp;rw [hop];exact dI _ X (by rw [hρ.dK hx];exact hr X hX)) h
theorem aY {x:Operand} {ty:TypeId} {p:Value} (hS:S w) (ho:nth L i=some o) (hop:o.op = .load ty x) (hd:o.dst=some d) (hg:gd L l o.guard=some true) (hx:dK l x=some p)
  (hr:(Instr.loadAt ty p).run P w = .ok v w) (h:fF P L S K r ((d,v)::l) w):fF P L S K ((false,i,m)::r) l w :=
 kP ho hd hg (fun ρ hρ=>by unfold execOp;rw [hop];exact dI _ w (by rw [hρ.dK hx];exact hr)) hS h
theorem aH (h:K l w):fF P L S K [] l w:=h
theorem CF {ty:TypeId} (ho:nth L i=some o) (hop:o.op = .alloc ty) (hd:o.dst=some d) (hg:gd L l o.guard=some true)
  (hr:(Instr.alloc ty true (.tuple #[])).run P w = .ok v w') (hS:S w') (h:fF P L S K r ((d,v)::l) w'):fF P L S K ((false,i,m)::r) l w :=
 kP ho hd hg (fun ρ hρ=>by
  unfold execOp;rw [hop]
  show (Instr.alloc ty true (.tuple #[]) >>= fun u=>pure (Next.value u)).run P w=_
  rw [Sem.run_bind,hr];rfl) hS h
theorem eu {x y:Operand} {ty:TypeId} {p u:Value} (ho:nth L i=some o) (hop:o.op = .store ty x y) (hd:o.dst=none) (hg:gd L l o.guard=some true) (hx:dK l x=some p) (hy:dK l y=some u)
  (hr:(Instr.storeAt ty p u).run P w = .ok () w') (hS:S w') (h:fF P L S K r l w'):fF P L S K ((false,i,m)::r) l w :=
 RJ ho hd hg (fun ρ hρ=>by
  unfold execOp;rw [hop]
  show (Instr.storeAt ty (ρ x) (ρ y) >>= fun _=>pure Next.skip).run P w=_
  rw [hρ.dK hx,hρ.dK hy,Sem.run_bind,hr];rfl) hS h
theorem dS {x:Operand} {ix:Nat} {t:Array Value} (hS:S w) (ho:nth L i=some o) (hop:o.op = .extract x ix) (hd:o.dst=some d) (hg:gd L l o.guard=some true) (hx:dK l x=some (.tuple t)) (hv:t[ix]?=some v)
  (h:fF P L S K r ((d,v)::l) w):fF P L S K ((k,i,m)::r) l w :=
 fO hS ho hd hg (fun ρ hρ X hX=>by unfold execOp;rw [hop];exact dI _ X (by rw [hρ.dK hx];simp [Instr.extract,hv])) h
theorem IL {x:Operand} {op:UnOp} {ty:TypeId} {u:Value} (hS:S w) (ho:nth L i=some o) (hop:o.op = .unOp op ty x) (hd:o.dst=some d) (hg:gd L l o.guard=some true) (hx:dK l x=some u)
  (hr:∀ X,(Op.unary op u).run P X = .ok v X) (h:fF P L S K r ((d,v)::l) w):fF P L S K ((k,i,m)::r) l w :=
 fO hS ho hd hg (fun ρ hρ X _=>by unfold execOp;rw [hop];exact dI _ X (by rw [hρ.dK hx];exact hr X)) h
theorem bn {x y:Operand} {op:BinOp} {tx ty:TypeId} {u u':Value} (hS:S w) (ho:nth L i=some o) (hop:o.op = .binOp op tx x y ty) (hd:o.dst=some d) (hg:gd L l o.guard=some true) (hx:dK l x=some u) (hy:dK l y=some u')
  (hr:∀ X,(do eqGuard op tx x y u u';binOp op tx u u':Sem Value).run P X = .ok v X) (h:fF P L S K r ((d,v)::l) w):fF P L S K ((k,i,m)::r) l w :=
 fO hS ho hd hg (fun ρ hρ X _=>by unfold execOp;rw [hop];exact dI _ X (by rw [hρ.dK hx,hρ.dK hy];exact hr X)) h
end
end Go.Proofs.YtgcieamfidoaoaaGreatDoor.Pl
/- A row of structs that grows. -/
namespace Go.Proofs.YtgcieamfidoaoaaGreatDoor.Pl
open Go
set_option maxRecDepth 100000
section
variable {P:Program} {Q:Exit→Act→World→Prop}
theorem CO {id:Nat} (hQ:∀ c (d:Option Tmp) v a w,Q (.panic c) (a.put d v) w→Q (.panic c) a w):∀ c (d:Option Tmp) v a w,Exit.inBlock id Q (.panic c) (a.put d v) w→Exit.inBlock id Q (.panic c) a w:=fun c d v a w h=>hQ c d v a w h
theorem F4 {R:Act→World→Prop} (hQ:∀ c (d:Option Tmp) v a w,Q (.panic c) (a.put d v) w→Q (.panic c) a w):∀ c (d:Option Tmp) v a w,Exit.then R Q (.panic c) (a.put d v) w→Exit.then R Q (.panic c) a w:=fun c d v a w h=>hQ c d v a w h
end
section
variable {P:Program} {L:List Oper} {S:World→Prop} {K:List (Nat × Value)→World→Prop} {k:Bool} {i m d:Nat} {o:Oper} {r:List (Bool × Nat × Nat)} {l:List (Nat × Value)} {w w':World} {v:Value}
theorem gY {f:FuncId} {t:Operand} {xs:List Operand} {ats:Array TypeId} {fs vs cap:List Value} (ho:nth L i=some o) (hop:o.op = .call { callee:=.value t,args:=xs.toArray,argTypes:=ats }) (hd:o.dst=some d)
  (hg:gd L l o.guard=some true) (ht:dK l t=some (.func (.func f) fs.toArray cap.toArray)) (hx:sw l xs=some vs) (hf:∀ (u:Array Value) X,(callFunc f u).run P X = .ok (.enter f u) X)
  (hc:Calls P f (fs++(vs++cap)).toArray w (fun e w'=>∃ v,e = .returned v∧S w'∧fF P L S K r ((d,v)::l) w')):fF P L S K ((false,i,m)::r) l w :=
 ⟨o,ho,.inr (.inr (.inl ⟨d,f,(fs++(vs++cap)).toArray,rfl,hd,hg,fun ρ hρ=>by
  unfold execOp
  rw [hop]
  show (resolve ρ _ _ >>= fun d=>invoke d.target d.args).run P w=_
  unfold resolve
  show (Deferred.ofValue (ρ t) (xs.toArray.map ρ) >>= fun d=>invoke d.target d.args).run P w=_
  rw [hρ.dK ht]
  show (callFunc f ((fs.toArray++xs.toArray.map ρ)++cap.toArray)).run P w=_
  have e:(fs.toArray++xs.toArray.map ρ)++cap.toArray=(fs++(vs++cap)).toArray:=by rw [← hρ.sw hx];simp
  rw [e]
  exact hf _ w,hc⟩))⟩
theorem nZ {f:FuncId} {fst cap:List Operand} {fs vs:List Value} (hS:S w) (ho:nth L i=some o) (hop:o.op = .makeFunc (.func f) fst.toArray cap.toArray) (hd:o.dst=some d) (hg:gd L l o.guard=some true) (hf:sw l fst=some fs) (hx:sw l cap=some vs)
  (h:fF P L S K r ((d,.func (.func f) fs.toArray vs.toArray)::l) w):fF P L S K ((k,i,m)::r) l w :=
 fO hS ho hd hg (fun ρ hρ X _=>by
  unfold execOp;rw [hop]
  refine dI _ X ?_
  have e:cap.toArray.map ρ=vs.toArray:=by rw [← hρ.sw hx];simp
  have e1:fst.toArray.map ρ=fs.toArray:=by rw [← hρ.sw hf];simp
  show (Instr.makeFunc (.func f) (fst.toArray.map ρ) (cap.toArray.map ρ)).run P X=_
  rw [e,e1]
  simp [Instr.makeFunc]) h
end
theorem qC {P:Program} {n:Nat} {l:List (Nat × Value)} {w:World} {fn:Func} {R:Ending→World→Prop} (hr:fn.results=#[]) (h:R (.returned (.tuple #[])) w):V P (bodyPost P fn R) n [] [] l w:=fun a ha=>by
 refine ⟨ha.defers,.tuple #[],?_,h⟩
 unfold results
 rw [hr]
 simp
end Go.Proofs.YtgcieamfidoaoaaGreatDoor.Pl
/- Plain steps, as many as follow one another. -/
namespace Go.Proofs.YtgcieamfidoaoaaGreatDoor.Pl
open Go
set_option maxRecDepth 100000
def bG (l:List (Nat × Value)):Op→Option Value
 | .move x=>dK l x
 | .assign x=>dK l x
 | .pick c x y=>match dK l c with
  | some (.bool true)=>dK l x
  | some (.bool false)=>dK l y
  | _=>none
 | .extract x ix=>match dK l x with
  | some (.tuple t)=>t[ix]?
  | _=>none
 | _=>none
def plain (L:List Oper) (l:List (Nat × Value)) (o:Oper):Option Value:=match gd L l o.guard with
 | some true=>bG l o.op
 | some false=>some undef
 | none=>none
def KF (L:List Oper):List (Bool × Nat × Nat)→List (Nat × Value)→List (Bool × Nat × Nat) × List (Nat × Value)
 | [],l=>([],l)
 | (k,i,m)::r,l=>match nth L i with
  | none=>((k,i,m)::r,l)
  | some o=>match o.dst with
   | none=>((k,i,m)::r,l)
   | some d=>match plain L l o with
    | none=>((k,i,m)::r,l)
    | some v=>KF L r ((d,v)::l)
section
variable {P:Program} {L:List Oper} {S:World→Prop} {K:List (Nat × Value)→World→Prop}
theorem KG {l:List (Nat × Value)} {o:Oper} {v:Value} (h:bG l o.op=some v) (ρ:Operand→Value) (hρ:Cons ρ l) (X:World):(execOp ρ o).run P X = .ok (.value v) X:=by
 unfold execOp
 cases ho:o.op<;>rw [ho] at h<;>simp only [bG] at h<;>try (cases h;done)
 case move x=>show Result.ok (Next.value (ρ x)) X=_;rw [hρ.dK h]
 case assign x=>show Result.ok (Next.value (ρ x)) X=_;rw [hρ.dK h]
 case pick c x y =>
  split at h
  · next hc =>
    show (asBool (ρ c) >>= fun t=>pure (Next.value (if t then ρ x else ρ y))).run P X=_
    rw [hρ.dK hc,hρ.dK h |>.symm];rfl
  · next hc =>
    show (asBool (ρ c) >>= fun t=>pure (Next.value (if t then ρ x else ρ y))).run P X=_
    rw [hρ.dK hc,hρ.dK h |>.symm];rfl
  · cases h
 case extract x ix =>
  split at h
  · next hx=>exact dI _ X (by rw [hρ.dK hx];simp [Instr.extract,h])
  · cases h
theorem Mw:∀ (r:List (Bool × Nat × Nat)) (l:List (Nat × Value)) {w:World},S w→fF P L S K (KF L r l).1 (KF L r l).2 w→fF P L S K r l w
 | [],l,w,_,h=>h
 | (k,i,m)::r,l,w,hS,h=>by
  unfold KF at h
  split at h
  · exact h
  · next o ho =>
    split at h
    · exact h
    · next d hd =>
      split at h
      · exact h
      · next v hv =>
        have ih:=Mw r _ hS h
        unfold plain at hv
        split at hv
        · next hg=>exact fO hS ho hd hg (fun ρ hρ X _=>KG hv ρ hρ X) ih
        · next hg=>cases hv;exact jP ho hd hg ih
        · cases hv
theorem jB {r r':List (Bool × Nat × Nat)} {l l':List (Nat × Value)} {w:World} (hS:S w) (e:KF L r l=(r',l')) (h:fF P L S K r' l' w):fF P L S K r l w:=Mw r l hS (by rw [e];exact h)
end
end Go.Proofs.YtgcieamfidoaoaaGreatDoor.Pl
/- Steps for any program: numbers, slices. -/
namespace Go.Proofs.YtgcieamfidoaoaaGreatDoor.Pl
open Go
set_option maxRecDepth 100000
theorem oC {z:Int} (h1 : -9223372036854775808≤z) (h2:z≤9223372036854775807):IntKind.i64.wrap z=z:=by
 simp only [IntKind.wrap,IntKind.signed,IntKind.bits,Bool.true_and];simp;split<;>omega
section
variable {P:Program} {T:TypeId} {x y:Operand} {k k':IntKind} {a b c:Int} {v:Bool}
abbrev Bn (P:Program) (op:BinOp) (T:TypeId) (x y:Operand) (u u':Value) (X:World):Result Value:=(do eqGuard op T x y u u';binOp op T u u':Sem Value).run P X
theorem Ep (h:k.wrap (a+b)=c) (X:World):Bn P .add T x y (.int k a) (.int k b) X = .ok (.int k c) X:=by
 subst h;simp [Bn,eqGuard,binOp,Op.intArith]
theorem acg (h:k.wrap (a-b)=c) (X:World):Bn P .sub T x y (.int k a) (.int k b) X = .ok (.int k c) X:=by
 subst h;simp [Bn,eqGuard,binOp,Op.intArith]
theorem aaK (h:k.wrap (a*b)=c) (X:World):Bn P .mul T x y (.int k a) (.int k b) X = .ok (.int k c) X:=by
 subst h;simp [Bn,eqGuard,binOp,Op.intArith]
theorem aaJ (h0:b≠0) (h:k.wrap (a.tdiv b)=c) (X:World):Bn P .quo T x y (.int k a) (.int k b) X = .ok (.int k c) X:=by
 subst h;simp [Bn,eqGuard,binOp,Op.intDiv,h0]
theorem xA (h:(a==b)=v) (X:World):Bn P .eql T x y (.int k a) (.int k b) X = .ok (.bool v) X:=by
 subst h;simp [Bn,eqGuard,binOp,Op.intCmp]
theorem Xa (h:(a != b)=v) (X:World):Bn P .neq T x y (.int k a) (.int k b) X = .ok (.bool v) X:=by
 subst h;simp [Bn,eqGuard,binOp,Op.intCmp]
theorem Xb (h:decide (a<b)=v) (X:World):Bn P .lss T x y (.int k a) (.int k b) X = .ok (.bool v) X:=by
 subst h;simp [Bn,eqGuard,binOp,Op.intCmp]
theorem Xd (h:decide (a≤b)=v) (X:World):Bn P .leq T x y (.int k a) (.int k b) X = .ok (.bool v) X:=by
 subst h;simp [Bn,eqGuard,binOp,Op.intCmp]
theorem Xe (h:decide (b<a)=v) (X:World):Bn P .gtr T x y (.int k a) (.int k b) X = .ok (.bool v) X:=by
 subst h;simp [Bn,eqGuard,binOp,Op.intCmp]
theorem Xf (h:decide (b≤a)=v) (X:World):Bn P .geq T x y (.int k a) (.int k b) X = .ok (.bool v) X:=by
 subst h;simp [Bn,eqGuard,binOp,Op.intCmp]
end
def JQ (l:List (Nat × Value)) (x:Operand):Value:=(dK l x).getD undef
def known (l:List (Nat × Value)):Op→Bool
 | .unOp _ _ x=>(dK l x).isSome
 | .binOp _ _ x y _=>(dK l x).isSome&&(dK l y).isSome
 | .convert _ _ x=>(dK l x).isSome
 | .makeInterface _ x=>(dK l x).isSome
 | .fieldAddr _ x _=>(dK l x).isSome
 | .field _ x _=>(dK l x).isSome
 | .index _ x y=>(dK l x).isSome&&(dK l y).isSome
 | .indexAddr _ x y=>(dK l x).isSome&&(dK l y).isSome
 | .extract x _=>(dK l x).isSome
 | .load _ x=>(dK l x).isSome
 | .alloc _=>true
 | .box _ x=>(dK l x).isSome
 | .store _ x y=>(dK l x).isSome&&(dK l y).isSome
 | .build _ ps=>ps.toList.all fun p=>(dK l p.2).isSome
 | .buildSlice _ _ ps=>ps.toList.all fun p=>(dK l p.2).isSome
 | .slice _ x lo hi mx=>(dK l x).isSome&&(lo.all fun z=>(dK l z).isSome)&&(hi.all fun z=>(dK l z).isSome)&&(mx.all fun z=>(dK l z).isSome)
 | .typeAssert x _ _ _=>(dK l x).isSome
 | _=>false
theorem jC {ρ:Operand→Value} {l:List (Nat × Value)} (h:Cons ρ l) {x:Operand} (hx:(dK l x).isSome=true):ρ x=JQ l x:=by
 obtain ⟨v,hv⟩:=Option.isSome_iff_exists.1 hx
 rw [h.dK hv,JQ,hv];rfl
theorem Mx {ρ:Operand→Value} {l:List (Nat × Value)} (h:Cons ρ l) (ps:Array (Nat × Operand)) (hp:(ps.toList.all fun p=>(dK l p.2).isSome)=true):ps.map (fun (i,x)=>(i,ρ x))=ps.map (fun (i,x)=>(i,JQ l x)):=by
 apply Array.map_congr_left
 intro p hm
 rw [List.all_eq_true] at hp
 show (p.1,ρ p.2)=(p.1,JQ l p.2)
 rw [jC h (hp p (Array.mem_toList_iff.2 hm))]
theorem FU {ρ:Operand→Value} {l:List (Nat × Value)} (h:Cons ρ l) {o:Option Operand} (hp:(o.all fun z=>(dK l z).isSome)=true):o.map ρ=o.map (JQ l):=by
 cases o with
 | none=>rfl
 | some x=>simp only [Option.map_some];rw [jC h (by simpa using hp)]
theorem jI {ρ:Operand→Value} {l:List (Nat × Value)} (h:Cons ρ l) {o:Oper} (hk:known l o.op=true):execOp ρ o=execOp (JQ l) o:=by
 unfold execOp
 cases ho:o.op<;>rw [ho] at hk<;>simp only [known,Bool.and_eq_true] at hk<;>try (cases hk;done)
 case unOp=>dsimp only;rw [jC h hk]
 case binOp=>dsimp only;rw [jC h hk.1,jC h hk.2]
 case convert=>dsimp only;rw [jC h hk]
 case makeInterface=>dsimp only;rw [jC h hk]
 case fieldAddr=>dsimp only;rw [jC h hk]
 case field=>dsimp only;rw [jC h hk]
 case index=>dsimp only;rw [jC h hk.1,jC h hk.2]
 case indexAddr=>dsimp only;rw [jC h hk.1,jC h hk.2]
 case extract=>dsimp only;rw [jC h hk]
 case load=>dsimp only;rw [jC h hk]
 case box=>dsimp only;rw [jC h hk]
 case store=>dsimp only;rw [jC h hk.1,jC h hk.2]
 case build=>dsimp only;rw [Mx h _ hk]
 case buildSlice=>dsimp only;rw [Mx h _ hk]
 case slice=>dsimp only;rw [jC h hk.1.1.1,FU h hk.1.1.2,FU h hk.1.2,FU h hk.2]
 case typeAssert=>dsimp only;rw [jC h hk]
section
variable {P:Program} {L:List Oper} {S:World→Prop} {K:List (Nat × Value)→World→Prop} {k:Bool} {i m d:Nat} {o:Oper} {r:List (Bool × Nat × Nat)} {l:List (Nat × Value)} {w w':World} {v:Value}
theorem mo (v:Value) (hS:S w) (ho:nth L i=some o) (hd:o.dst=some d) (hg:gd L l o.guard=some true) (hk:known l o.op=true) (he:∀ X,(execOp (JQ l) o).run P X = .ok (.value v) X)
 (h:fF P L S K r ((d,v)::l) w):fF P L S K ((k,i,m)::r) l w:=fO hS ho hd hg (fun ρ hρ X _=>by rw [jI hρ hk];exact he X) h
theorem Y8 (v:Value) (w':World) (ho:nth L i=some o) (hd:o.dst=some d) (hg:gd L l o.guard=some true) (hk:known l o.op=true) (he:(execOp (JQ l) o).run P w = .ok (.value v) w') (hS:S w')
 (h:fF P L S K r ((d,v)::l) w'):fF P L S K ((false,i,m)::r) l w:=kP ho hd hg (fun ρ hρ=>by rw [jI hρ hk];exact he) hS h
theorem Vl {x y:Operand} {op:BinOp} {tx ty:TypeId} {u u':Value} (hr:∀ X,Bn P op tx x y u u' X = .ok v X) (hS:S w) (ho:nth L i=some o) (hop:o.op = .binOp op tx x y ty) (hd:o.dst=some d) (hg:gd L l o.guard=some true) (hx:dK l x=some u) (hy:dK l y=some u')
 (h:fF P L S K r ((d,v)::l) w):fF P L S K ((k,i,m)::r) l w:=bn hS ho hop hd hg hx hy hr h
theorem P7 {x:Operand} {t e:TypeId} {A:Option Addr} {n c:Nat} (hu:P.underlying t=some (.slice e)) (hS:S w) (ho:nth L i=some o) (hop:o.op = .call { callee:=.builtin .len,args:=#[x],argTypes:=#[t] }) (hd:o.dst=some d) (hg:gd L l o.guard=some true) (hx:dK l x=some (.slice A n c))
  (h:fF P L S K r ((d,.int .i64 ((n:Nat):Int))::l) w):fF P L S K ((k,i,m)::r) l w :=
 fO hS ho hd hg (fun ρ hρ X _=>by
  obtain ⟨d',op',t',ps',af',gu'⟩:=o
  cases hop
  have e:=hρ.dK hx
  simp [go_sem,e,Builtin.len_,run_underlying hu]) h
theorem sK {ty:TypeId} {dd:TypeDesc} {a:Addr} {X:World} (hu:P.underlying ty=some dd) (hd:dd.isRow=false) (hc:X.cell? a=some v):(Instr.loadAt ty (.pointer (some a))).run P X = .ok v X:=by
 cases dd<;>first | (simp [TypeDesc.isRow] at hd;done) | simp [Instr.loadAt,Instr.sureAddr,loadVar,isAgg,run_underlying hu,hc,Result.andThen]
theorem WL {x:Operand} {ty:TypeId} {dd:TypeDesc} {a:Addr} (hu:P.underlying ty=some dd) (hd':dd.isRow=false) (hc:∀ X,S X→X.cell? a=some v) (hS:S w) (ho:nth L i=some o) (hop:o.op = .load ty x) (hd:o.dst=some d) (hg:gd L l o.guard=some true) (hx:dK l x=some (.pointer (some a)))
 (h:fF P L S K r ((d,v)::l) w):fF P L S K ((k,i,m)::r) l w:=iH hS ho hop hd hg hx (fun X hX=>sK hu hd' (hc X hX)) h
theorem rQ {x:Operand} {ty:TypeId} {dd:TypeDesc} {a:Addr} (hu:P.underlying ty=some dd) (hd':dd.isRow=false) (hc:w.cell? a=some v) (hS:S w) (ho:nth L i=some o) (hop:o.op = .load ty x) (hd:o.dst=some d) (hg:gd L l o.guard=some true) (hx:dK l x=some (.pointer (some a)))
 (h:fF P L S K r ((d,v)::l) w):fF P L S K ((false,i,m)::r) l w:=aY hS ho hop hd hg hx (sK hu hd' hc) h
end
end Go.Proofs.YtgcieamfidoaoaaGreatDoor.Pl
/- Memory: variables, slices that are read, rows that grow, what is kept. -/
namespace Go.Proofs.YtgcieamfidoaoaaGreatDoor.Pl
open Go Go.RowKit
set_option maxRecDepth 100000
def Ex (a b:World):Prop:=Below a.heap.size a b
theorem Ex.refl (w:World):Ex w w:=Below.refl _ _
theorem Ex.trans {a b c:World} (h:Ex a b) (k:Ex b c):Ex a c:=Below.trans h (Below.mono k (Below.size h))
theorem Ex.size {a b:World} (h:Ex a b):a.heap.size≤b.heap.size:=Below.size h
theorem Ex.alloc (w:World) (x:Obj):Ex w (w.alloc x):=Below.alloc (Below.refl _ w) (Nat.le_refl _) x
theorem Ex.drew (w:World):Ex w w.drew:=Below.drew (Below.refl _ w)
structure Xs (Bs:List Nat) (w w':World):Prop where
 os:w'.os=w.os
 tape:w'.tape=w.tape
 output:w'.output=w.output
 size:w.heap.size≤w'.heap.size
 block:∀ k,k<w.heap.size→k∉Bs→w'.heap[k]?=w.heap[k]?
theorem Xs.ex {Bs:List Nat} {w w':World} (h:Ex w w'):Xs Bs w w':=⟨h.os,h.tape,h.output,h.size,fun k hk _=>h.block k hk⟩
theorem Xs.trans {Bs:List Nat} {a b c:World} (h:Xs Bs a b) (k:Xs Bs b c):Xs Bs a c :=
 ⟨k.os.trans h.os,k.tape.trans h.tape,k.output.trans h.output,Nat.le_trans h.size k.size,fun i hi hn=>(k.block i (Nat.lt_of_lt_of_le hi h.size) hn).trans (h.block i hi hn)⟩
theorem Ex.xs {w0 w w':World} {N:Nat} (h:Ex w0 w) (k:Xs [N] w w') (hN:w0.heap.size≤N):Ex w0 w' :=
 ⟨k.os.trans h.os,k.tape.trans h.tape,k.output.trans h.output,Nat.le_trans h.size k.size,fun i hi=>(k.block i (Nat.lt_of_lt_of_le hi h.size) (by simp;omega)).trans (h.block i hi)⟩
def Cb (w:World) (N:Nat) (T:TypeId) (cs:List Value):Prop:=w.heap[N]?=some (.cells cs.toArray T (0,0))
theorem Cb.lt {w:World} {N:Nat} {T:TypeId} {cs:List Value} (h:Cb w N T cs):N<w.heap.size:=(Array.getElem?_eq_some_iff.1 h).1
theorem Cb.ex {w w':World} {N:Nat} {T:TypeId} {cs:List Value} (h:Cb w N T cs) (k:Ex w w'):Cb w' N T cs:=(k.block N h.lt).trans h
theorem Cb.xs {w w':World} {N:Nat} {T:TypeId} {cs:List Value} {Bs:List Nat} (h:Cb w N T cs) (k:Xs Bs w w') (hn:N∉Bs):Cb w' N T cs:=(k.block N h.lt hn).trans h
theorem Cb.new (w:World) (T:TypeId) (cs:List Value):Cb (w.alloc (.cells cs.toArray T)) w.heap.size T cs:=_root_.Go.heap_alloc_new w _
theorem Cb.at {w:World} {N:Nat} {T:TypeId} {cs:List Value} {v:Value} (h:Cb w N T cs) {j:Nat} (hj:cs[j]?=some v):w.cell? ⟨N,j,none⟩=some v:=by
 rw [cell_of_row w N j cs.toArray T (0,0) h];simpa using hj
theorem Cb.frozen {w:World} {N:Nat} {T:TypeId} {cs:List Value} (h:Cb w N T cs) (j:Nat):w.frozen? ⟨N,j,none⟩=false:=by unfold Cb at h;simp [World.frozen?,h]
theorem Cb.put {w:World} {N:Nat} {T:TypeId} {cs:List Value} (h:Cb w N T cs) (new:List Value):Cb (w.setRow N new.toArray) N T new:=setRow_heap w N _ _ T _ h
theorem Xs.put (w:World) (N:Nat) (new:Array Value):Xs [N] w (w.setRow N new):=⟨by simp,by simp,by simp,by simp,fun k _ hn=>setRow_other w N k new (by simpa using hn)⟩
section
variable {P:Program}
theorem Cb.load {w:World} {N:Nat} {T:TypeId} {cs:List Value} (h:Cb w N T cs) {o:Nat} {part:List Value} (hp:(cs.drop o).take part.length=part) {ty:TypeId} {d:TypeDesc} (hu:P.underlying ty=some d) (hd:d.isRow=true) (hi:(P.info? ty).map (·.size)=some part.length) :
  (Instr.loadAt ty (.pointer (some ⟨N,o,none⟩))).run P w = .ok (.agg part.toArray) w :=
 run_loadAt_mid w N o ty part d (by
  have:=World.rangeAt_of_block h o part.length
  have e:(cs.toArray.extract o (o+part.length)).toList=part:=by
   rw [Array.toList_extract,List.extract_eq_take_drop,Nat.add_sub_cancel_left];exact hp
  rwa [e] at this) hu hd hi
theorem Cb.store {w:World} {N:Nat} {T:TypeId} {cs:List Value} (h:Cb w N T cs) {ty:TypeId} {new:List Value} (hi:(P.info? ty).map (·.size)=some new.length) (hl:cs.length=new.length) (h1:∀ v∈new,v.oneCell'=true) :
  (Instr.storeAt ty (.pointer (some ⟨N,0,none⟩)) (.agg new.toArray)).run P w = .ok () (w.setRow N new.toArray):=by
 simp only [Instr.storeAt,Instr.sureAddr,Sem.run_bind,Sem.run_pure,Result.andThen_ok]
 exact run_storeVar_row w N T ty cs.toArray new.toArray h (by simpa using hi) (by simpa using hl) (all_oneCell_toArray h1)
theorem RA {w:World} {ty:TypeId} {a:Addr} {v old:Value} (hi:(P.info? ty).map (·.size)=some 1) (h1:v.oneCell'=true) (hv:v.cells=#[v]) (hc:w.cell? a=some old) (hf:w.frozen? a=false) :
  (Instr.storeAt ty (.pointer (some a)) v).run P w = .ok () (w.setCell a v):=by
 obtain ⟨inf,hi0,hz⟩:=Option.map_eq_some_iff.1 hi
 have e:a.add 0=a:=by simp [Addr.add]
 simp [Instr.storeAt,Instr.sureAddr,storeVar,sizeOf,typeInfo,hi0,hz,hv,storeCells,Result.andThen,run_store P w _ v _ h1,e,hc,hf]
end
theorem Cb.set {w:World} {N:Nat} {T:TypeId} {cs:List Value} (h:Cb w N T cs) (j:Nat) (v:Value):Cb (w.setCell ⟨N,j,none⟩ v) N T (cs.set j v):=by
 have:=heap_setCell_same w N j _ _ v h
 unfold Cb
 rw [this,List.setIfInBounds_toArray]
theorem Xs.set (w:World) (N j:Nat) (v:Value):Xs [N] w (w.setCell ⟨N,j,none⟩ v):=⟨by simp [World.setCell],by simp [World.setCell],by simp [World.setCell],by simp [World.setCell],fun k _ hn=>Below.heap_setCell w ⟨N,j,none⟩ v k (by simpa using hn)⟩
section
variable {P:Program} {L:List Oper} {S:World→Prop} {K:List (Nat × Value)→World→Prop} {k:Bool} {i m d:Nat} {o:Oper} {x y:Operand} {r:List (Bool × Nat × Nat)} {l:List (Nat × Value)} {w w':World} {v:Value}
theorem mI {T:TypeId} {z:Value} (hz:(P.info? T).map (fun i=>i.zero)=some (some z)) (ho:nth L i=some o) (hp:o.op = .alloc T) (hd:o.dst=some d) (hg:gd L l o.guard=some true) (hS:∀ Y,Ex w Y→S Y)
  (h:∀ N w',Ex w w'→N=w.heap.size→Cb w' N T z.cells.toList→fF P L S K r ((d,.pointer (some ⟨N,0,none⟩))::l) w'):fF P L S K ((false,i,m)::r) l w:=by
 have e1:=Ex.alloc w (.cells z.cells T)
 have h0:(zeroValue T).run P w = .ok z w:=by
  cases hq:P.info? T with
  | none=>simp [hq] at hz
  | some i=>simp [hq] at hz;simp [zeroValue,typeInfo,hq,hz]
 refine CF ho hp hd hg (w':=w.alloc (.cells z.cells T)) (by simp [Instr.alloc,Sem.run_bind,h0,newVar,newRow]) (hS _ e1) (h _ _ e1 rfl ?_)
 have:=Cb.new w T z.cells.toList
 simpa using this
theorem oW {T:TypeId} {u:Value} {cs:List Value} (ho:nth L i=some o) (hp:o.op = .box T x) (hd:o.dst=some d) (hg:gd L l o.guard=some true) (hx:dK l x=some u) (hc:u.cells=cs.toArray) (hS:∀ Y,Ex w Y→S Y)
  (h:∀ N w',Ex w w'→N=w.heap.size→Cb w' N T cs→fF P L S K r ((d,.pointer (some ⟨N,0,none⟩))::l) w'):fF P L S K ((false,i,m)::r) l w:=by
 have e1:=Ex.alloc w (.cells cs.toArray T)
 refine kP (w':=w.alloc (.cells cs.toArray T)) (v:=.pointer (some ⟨w.heap.size,0,none⟩)) ho hd hg (fun ρ hρ=>?_) (hS _ e1) (h _ _ e1 rfl (Cb.new w T cs))
 unfold execOp;rw [hp]
 refine tV _ ?_
 rw [hρ.dK hx]
 simp [Instr.box,Sem.run_bind,newVar,newRow,hc]
theorem WE {e:TypeId} {n:Nat} (cs:List Value) (ho:nth L i=some o) (hd:o.dst=some d) (hg:gd L l o.guard=some true) (hk:known l o.op=true)
  (he:(execOp (JQ l) o).run P w = .ok (.value (.slice (some ⟨w.heap.size,0,none⟩) n n)) (w.alloc (.cells cs.toArray e))) (hS:∀ Y,Ex w Y→S Y)
  (h:∀ N w',Ex w w'→N=w.heap.size→Cb w' N e cs→fF P L S K r ((d,.slice (some ⟨N,0,none⟩) n n)::l) w'):fF P L S K ((false,i,m)::r) l w :=
 Y8 _ _ ho hd hg hk he (hS _ (Ex.alloc w _)) (h _ _ (Ex.alloc w _) rfl (Cb.new w e cs))
theorem lI {N:Nat} {T ty:TypeId} {cs new:List Value} (hC:Cb w N T cs) (hi:(P.info? ty).map (·.size)=some new.length) (hl:cs.length=new.length) (h1:∀ v∈new,v.oneCell'=true) (ho:nth L i=some o) (hp:o.op = .store ty x y) (hd:o.dst=none) (hg:gd L l o.guard=some true) (hx:dK l x=some (.pointer (some ⟨N,0,none⟩))) (hy:dK l y=some (.agg new.toArray))
  (hS:∀ Y,Xs [N] w Y→S Y) (h:∀ w',Xs [N] w w'→Cb w' N T new→fF P L S K r l w'):fF P L S K ((false,i,m)::r) l w :=
 eu ho hp hd hg hx hy (hC.store hi hl h1) (hS _ (Xs.put w N _)) (h _ (Xs.put w N _) (hC.put new))
theorem Q8 {N q:Nat} {T ty:TypeId} {dd:TypeDesc} {cs part:List Value} (hC:∀ X,S X→Cb X N T cs) (hp':(cs.drop q).take part.length=part) (hu:P.underlying ty=some dd) (hdd:dd.isRow=true) (hi:(P.info? ty).map (·.size)=some part.length) (hS:S w) (ho:nth L i=some o) (hp:o.op = .load ty x) (hd:o.dst=some d) (hg:gd L l o.guard=some true) (hx:dK l x=some (.pointer (some ⟨N,q,none⟩)))
 (h:fF P L S K r ((d,.agg part.toArray)::l) w):fF P L S K ((k,i,m)::r) l w:=iH hS ho hp hd hg hx (fun X hX=>(hC X hX).load hp' hu hdd hi) h
theorem jA {N q:Nat} {T ty:TypeId} {dd:TypeDesc} {cs part:List Value} (hC:Cb w N T cs) (hp':(cs.drop q).take part.length=part) (hu:P.underlying ty=some dd) (hdd:dd.isRow=true) (hi:(P.info? ty).map (·.size)=some part.length) (hS:S w) (ho:nth L i=some o) (hp:o.op = .load ty x) (hd:o.dst=some d) (hg:gd L l o.guard=some true) (hx:dK l x=some (.pointer (some ⟨N,q,none⟩)))
 (h:fF P L S K r ((d,.agg part.toArray)::l) w):fF P L S K ((false,i,m)::r) l w:=aY hS ho hp hd hg hx (hC.load hp' hu hdd hi) h
end
end Go.Proofs.YtgcieamfidoaoaaGreatDoor.Pl
