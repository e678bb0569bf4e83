/- Which orders a drawn region allows, by masks of bits. -/
import Derived.Deep.RegionHeld3
import Derived.BigCall

namespace Go.Proofs.YtdpmbgomcjnohaaGreatDoor.Pl
open Go
set_option linter.all false
set_option maxRecDepth 100000
set_option maxHeartbeats 8000000
def bitsOf:List Nat→Nat
 | []=>0
 | x::l=>Nat.lor (bitsOf l) (Nat.shiftLeft 1 x)
def tb (m j:Nat):Bool:=Nat.beq (Nat.land (Nat.shiftRight m j) 1) 1
theorem beq_iff (a b:Nat):Nat.beq a b=true↔a=b:=⟨Nat.eq_of_beq_eq_true,fun h=>by subst h;exact Nat.beq_refl _⟩
theorem iZ (m j:Nat):tb m j=m.testBit j:=by
 have h2:=Nat.mod_two_eq_zero_or_one (m >>> j)
 have h:Nat.land (Nat.shiftRight m j) 1=(m >>> j)%2:=Nat.and_one_is_mod (m >>> j)
 unfold tb Nat.testBit
 rw [h,Nat.and_comm,Nat.and_one_is_mod]
 rcases h2 with h2 | h2<;>rw [h2]<;>rfl
theorem oQ (x k:Nat):(Nat.shiftLeft 1 x).testBit k=decide (k=x):=by
 have h:Nat.shiftLeft 1 x=2^x:=by show 1 <<< x=2^x;rw [Nat.shiftLeft_eq,Nat.one_mul]
 rw [h,Nat.testBit_two_pow]
 by_cases e:x=k
 · subst e;simp
 · rw [decide_eq_false e,decide_eq_false (fun h=>e h.symm)]
theorem lG (k:Nat):∀ l:List Nat,(bitsOf l).testBit k=true↔k∈l
 | []=>by simp [bitsOf]
 | x::l=>by
  have h:(bitsOf (x::l)).testBit k=((bitsOf l).testBit k||(Nat.shiftLeft 1 x).testBit k):=Nat.testBit_or _ _ _
  rw [h,Bool.or_eq_true,lG k l,oQ,decide_eq_true_eq,List.mem_cons,or_comm]
theorem Iw {a m:Nat} (h:Nat.beq (Nat.land a m) a=true) (k:Nat) (hk:a.testBit k=true):m.testBit k=true:=by
 have h:=(beq_iff _ _).1 h
 have h2:(Nat.land a m).testBit k=(a.testBit k&&m.testBit k):=Nat.testBit_and _ _ _
 rw [h,hk,Bool.true_and] at h2
 exact h2.symm
theorem Iy {a m:Nat} (h:∀ k,a.testBit k=true→m.testBit k=true):Nat.beq (Nat.land a m) a=true:=by
 rw [beq_iff]
 refine Nat.eq_of_testBit_eq fun k=>?_
 have h2:(Nat.land a m).testBit k=(a.testBit k&&m.testBit k):=Nat.testBit_and _ _ _
 rw [h2]
 cases hk:a.testBit k
 · rfl
 · rw [h k hk];rfl
theorem El {a m:Nat} (h:Nat.beq (Nat.land a m) 0=true) (k:Nat) (hk:a.testBit k=true):m.testBit k=false:=by
 have h:=(beq_iff _ _).1 h
 have h2:(Nat.land a m).testBit k=(a.testBit k&&m.testBit k):=Nat.testBit_and _ _ _
 rw [h,hk,Bool.true_and,Nat.zero_testBit] at h2
 exact h2.symm
structure Tb where
 A:Nat
 D:Nat
 L:Nat
def dm:Option Nat→Nat
 | some d=>Nat.shiftLeft 1 d
 | none=>0
def row (ops:Array Oper) (o:Oper):Tb:=⟨bitsOf ((o.after.toList.filter (Region.binds .any)).map (·.on)),dm o.dst,bitsOf (o.looksAt ops)⟩
def tabs (ops:Array Oper):List Tb:=ops.toList.map (row ops)
def Fx (i D L M:Nat):List Tb→Nat→Bool
 | [],_=>true
 | t::l,j=>(Nat.beq j i||tb M j||tb t.A i||(Nat.beq (Nat.land D (Nat.lor t.L t.D)) 0&&Nat.beq (Nat.land t.D L) 0))&&Fx i D L M l (j+1)
def Fy (i M:Nat):List Tb→Nat→Bool
 | [],_=>true
 | t::l,j=>(Nat.beq j i||tb M j||!(Nat.beq (Nat.land t.A M) t.A))&&Fy i M l (j+1)
def Cx (T:List Tb) (e:Nat):List (Bool × Nat × Nat)→Nat→Bool
 | [],M=>Nat.beq M e
 | (k,i,m)::r,M=>Nat.beq M m&&(match T[i]? with
  | none=>false
  | some t=>!(tb m i)&&Nat.beq (Nat.land t.A m) t.A&&(match k with | true=>Fx i t.D t.L m T 0 | false=>Fy i m T 0))&&Cx T e r (Nat.lor m (Nat.shiftLeft 1 i))
theorem zu {i D L M:Nat}:∀ (l:List Tb) (j:Nat),Fx i D L M l j=true→∀ (k:Nat) (t:Tb),l[k]?=some t→j+k≠i→M.testBit (j+k)=false→t.A.testBit i=false →
  Nat.beq (Nat.land D (Nat.lor t.L t.D)) 0=true∧Nat.beq (Nat.land t.D L) 0=true
 | [],_,_,k,t,h,_,_,_=>by simp at h
 | x::l,j,h,k,t,hk,hi,hM,hA=>by
  rw [Fx,Bool.and_eq_true] at h
  cases k with
  | zero =>
   obtain rfl:x=t:=by simpa using hk
   rw [Nat.add_zero] at hi hM
   have h1:=h.1
   rw [iZ,iZ,hM,hA,Bool.or_false,Bool.or_false,Bool.or_eq_true,beq_iff,Bool.and_eq_true] at h1
   rcases h1 with h1 | h1
   · exact absurd h1 hi
   · exact h1
  | succ k =>
   have hs:j+(k+1)=(j+1)+k:=by omega
   rw [hs] at hi hM
   exact zu l (j+1) h.2 k t (by simpa using hk) hi hM hA
theorem zw {i M:Nat}:∀ (l:List Tb) (j:Nat),Fy i M l j=true→∀ (k:Nat) (t:Tb),l[k]?=some t→j+k≠i→M.testBit (j+k)=false→Nat.beq (Nat.land t.A M) t.A=false
 | [],_,_,k,t,h,_,_=>by simp at h
 | x::l,j,h,k,t,hk,hi,hM=>by
  rw [Fy,Bool.and_eq_true] at h
  cases k with
  | zero =>
   obtain rfl:x=t:=by simpa using hk
   rw [Nat.add_zero] at hi hM
   have h1:=h.1
   rw [iZ,hM,Bool.or_false,Bool.or_eq_true,beq_iff] at h1
   rcases h1 with h1 | h1
   · exact absurd h1 hi
   · simpa using h1
  | succ k =>
   have hs:j+(k+1)=(j+1)+k:=by omega
   rw [hs] at hi hM
   exact zw l (j+1) h.2 k t (by simpa using hk) hi hM
def QR (n M:Nat) (listed:Array Bool):Prop:=listed.size=n∧∀ j,listed.getD j false=M.testBit j
theorem QR.new (n:Nat):QR n 0 (Array.replicate n false):=⟨by simp,fun j=>by
 rw [Nat.zero_testBit,Array.getD_eq_getD_getElem?]
 by_cases h:j<n
 · simp [h]
 · simp [h]⟩
theorem QR.t {n M:Nat} {listed:Array Bool} (h:QR n M listed) {j:Nat} (hj:j<n):listed.getD j true=M.testBit j:=by
 rw [← h.2 j,Array.getD_eq_getD_getElem?,Array.getD_eq_getD_getElem?]
 have:j<listed.size:=by rw [h.1];exact hj
 simp [this]
theorem QR.put {n M:Nat} {listed:Array Bool} (h:QR n M listed) {i:Nat} (hi:i<n):QR n (Nat.lor M (Nat.shiftLeft 1 i)) (listed.setIfInBounds i true):=⟨by rw [Array.size_setIfInBounds];exact h.1,fun j=>by
 have h2:(Nat.lor M (Nat.shiftLeft 1 i)).testBit j=(M.testBit j||(Nat.shiftLeft 1 i).testBit j):=Nat.testBit_or _ _ _
 rw [h2,oQ,← h.2 j,Array.getD_eq_getD_getElem?,Array.getD_eq_getD_getElem?]
 by_cases e:i=j
 · subst e
   have:i<listed.size:=by rw [h.1];exact hi
   simp [this]
 · rw [Array.getElem?_setIfInBounds_ne e]
   simp [show ¬ j=i from fun x=>e x.symm]⟩
theorem xC {ops:Array Oper} {j:Nat} {o:Oper} (h:ops[j]?=some o):(tabs ops)[j]?=some (row ops o):=by
 unfold tabs
 rw [List.getElem?_map,Array.getElem?_toList,h];rfl
theorem Iz {ops:Array Oper} {j:Nat} {t:Tb} (h:(tabs ops)[j]?=some t):∃ o,ops[j]?=some o∧t=row ops o:=by
 unfold tabs at h
 rw [List.getElem?_map,Array.getElem?_toList] at h
 cases ho:ops[j]? with
 | none=>rw [ho] at h;cases h
 | some o=>rw [ho] at h;exact ⟨o,rfl,(Option.some.inj h).symm⟩
theorem QS {ops:Array Oper} {o:Oper} {k:Nat}:(row ops o).A.testBit k=true↔∃ e∈o.after,Region.binds .any e=true∧e.on=k:=by
 show (bitsOf _).testBit k=true↔_
 rw [lG]
 simp only [List.mem_map,List.mem_filter,Array.mem_toList_iff]
 exact ⟨fun ⟨e,⟨h1,h2⟩,h3⟩=>⟨e,h1,h2,h3⟩,fun ⟨e,h1,h2,h3⟩=>⟨e,⟨h1,h2⟩,h3⟩⟩
theorem KA {d:Nat}:(dm (some d)).testBit d=true:=by show (Nat.shiftLeft 1 d).testBit d=true;rw [oQ];simp
theorem QT {ops:Array Oper} {x y:Oper} (h1:Nat.beq (Nat.land (row ops x).D (Nat.lor (row ops y).L (row ops y).D)) 0=true) (h2:Nat.beq (Nat.land (row ops y).D (row ops x).L) 0=true):x.apart ops y=true:=by
 unfold Oper.apart
 rw [Bool.and_eq_true]
 constructor
 · cases hx:x.dst with
   | none=>rfl
   | some d =>
    have hb:(row ops x).D.testBit d=true:=by show (dm x.dst).testBit d=true;rw [hx];exact KA
    have h3:=El h1 d hb
    have h4:(Nat.lor (row ops y).L (row ops y).D).testBit d=((row ops y).L.testBit d||(row ops y).D.testBit d):=Nat.testBit_or _ _ _
    rw [h4,Bool.or_eq_false_iff] at h3
    have h5:d∉y.looksAt ops:=fun hm=>by
     have:=(lG d (y.looksAt ops)).2 hm
     have e:(row ops y).L.testBit d=true:=this
     rw [e] at h3;exact absurd h3.1 (by simp)
    have h6:y.dst≠some d:=fun hd=>by
     have e:(row ops y).D.testBit d=true:=by show (dm y.dst).testBit d=true;rw [hd];exact KA
     rw [e] at h3;exact absurd h3.2 (by simp)
    simp [h5,h6]
 · cases hy:y.dst with
   | none=>rfl
   | some d =>
    have hb:(row ops y).D.testBit d=true:=by show (dm y.dst).testBit d=true;rw [hy];exact KA
    have h3:=El h2 d hb
    have h5:d∉x.looksAt ops:=fun hm=>by
     have:=(lG d (x.looksAt ops)).2 hm
     have e:(row ops x).L.testBit d=true:=this
     rw [e] at h3;exact absurd h3 (by simp)
    simp [h5]
section
variable {P:Program} {ops:Array Oper} {Q:Exit→Act→World→Prop} {S:World→Prop}
theorem kS {n M:Nat} {listed:Array Bool} (hL:QR ops.size M listed) {j:Nat}:j∈Region.ready .any ops listed↔∃ o,ops[j]?=some o∧M.testBit j=false∧Nat.beq (Nat.land (row ops o).A M) (row ops o).A=true:=by
 rw [mem_ready]
 constructor
 · rintro ⟨h1,o,ho,h⟩
   have hj:j<ops.size:=(Array.getElem?_eq_some_iff.1 ho).1
   refine ⟨o,ho,(hL.t hj).symm.trans h1,Iy fun k hk=>?_⟩
   obtain ⟨e,he,hb,rfl⟩:=QS.1 hk
   exact (hL.2 _).symm.trans (h e he hb)
 · rintro ⟨o,ho,h1,h⟩
   have hj:j<ops.size:=(Array.getElem?_eq_some_iff.1 ho).1
   exact ⟨(hL.t hj).trans h1,o,ho,fun e he hb=>(hL.2 _).trans (Iw h _ (QS.2 ⟨e,he,hb,rfl⟩))⟩
def ME (M:Nat) (rs:List Nat):List Tb→Nat→Bool
 | [],_=>true
 | t::l,j=>(rs.elem j||tb M j||!(Nat.beq (Nat.land t.A M) t.A))&&ME M rs l (j+1)
def MF (T:List Tb) (M i:Nat):Bool:=match T[i]? with
 | none=>false
 | some t=>!(tb M i)&&Nat.beq (Nat.land t.A M) t.A
def QU (T:List Tb) (M:Nat) (rs:List Nat):Bool:=ME M rs T 0&&(match rs with
 | []=>false
 | i::_=>MF T M i)
theorem Cy {M:Nat} {rs:List Nat}:∀ (l:List Tb) (j:Nat),ME M rs l j=true→∀ (k:Nat) (t:Tb),l[k]?=some t→M.testBit (j+k)=false→Nat.beq (Nat.land t.A M) t.A=true→j+k∈rs
 | [],_,_,k,t,h,_,_=>by simp at h
 | x::l,j,h,k,t,hk,hM,hA=>by
  rw [ME,Bool.and_eq_true] at h
  cases k with
  | zero =>
   obtain rfl:x=t:=by simpa using hk
   rw [Nat.add_zero] at hM ⊢
   have h1:=h.1
   rw [iZ,hM,hA,Bool.or_false,Bool.not_true,Bool.or_false] at h1
   simpa using h1
  | succ k =>
   have hs:j+(k+1)=(j+1)+k:=by omega
   rw [hs] at hM ⊢
   exact Cy l (j+1) h.2 k t (by simpa using hk) hM hA
theorem KC {listed:Array Bool} (hL:QR ops.size (2^ops.size-1) listed):Region.ready .any ops listed=[]:=by
 cases hr:Region.ready .any ops listed with
 | nil=>rfl
 | cons j l =>
  have hj:j∈Region.ready .any ops listed:=by rw [hr];exact List.mem_cons_self
  obtain ⟨o,ho,h1,_⟩:=(kS (n:=0) hL).1 hj
  have hlt:j<ops.size:=(Array.getElem?_eq_some_iff.1 ho).1
  rw [Nat.testBit_two_pow_sub_one,decide_eq_true hlt] at h1
  cases h1
end
end Go.Proofs.YtdpmbgomcjnohaaGreatDoor.Pl
/- A region walked by a plan, its frame a list of what is known of it. -/
namespace Go.Proofs.YtdpmbgomcjnohaaGreatDoor.Pl
open Go
set_option linter.all false
set_option maxRecDepth 100000
set_option maxHeartbeats 8000000
def look:List (Nat × Value)→Nat→Option Value
 | [],_=>none
 | (d,v)::l,t=>match Nat.beq d t with
  | true=>some v
  | false=>look l t
def dA (l:List (Nat × Value)):Operand→Option Value
 | .tmp t=>look l t
 | .const v=>some v
 | .global g=>some (.pointer (some ⟨g,0,none⟩))
 | .func f=>some (.func (.func f) #[] #[])
def uH (l:List (Nat × Value)):List Operand→Option (List Value)
 | []=>some []
 | x::xs=>match dA l x with
  | none=>none
  | some v=>match uH l xs with
   | none=>none
   | some vs=>some (v::vs)
structure Cons (ρ:Operand→Value) (l:List (Nat × Value)):Prop where
 tmp:∀ t v,look l t=some v→ρ (.tmp t)=v
 const:∀ v,ρ (.const v)=v
 global:∀ g,ρ (.global g) = .pointer (some ⟨g,0,none⟩)
 func:∀ f,ρ (.func f) = .func (.func f) #[] #[]
theorem Cons.dA {ρ:Operand→Value} {l:List (Nat × Value)} (h:Cons ρ l) {x:Operand} {v:Value} (e:Pl.dA l x=some v):ρ x=v:=by
 cases x with
 | tmp t=>exact h.tmp t v e
 | const u=>rw [h.const];exact Option.some.inj e
 | global g=>rw [h.global];exact Option.some.inj e
 | func f=>rw [h.func];exact Option.some.inj e
theorem Cons.uH {ρ:Operand→Value} {l:List (Nat × Value)} (h:Cons ρ l):∀ {xs:List Operand} {vs:List Value},Pl.uH l xs=some vs→xs.map ρ=vs
 | [],vs,e=>by cases e;rfl
 | x::xs,vs,e=>by
  unfold Pl.uH at e
  cases hx:Pl.dA l x with
  | none=>rw [hx] at e;cases e
  | some v =>
   rw [hx] at e
   cases hxs:Pl.uH l xs with
   | none=>rw [hxs] at e;cases e
   | some us =>
    rw [hxs] at e
    cases e
    rw [List.map_cons,h.dA hx,h.uH hxs]
structure Ag (n:Nat) (ds:List Deferred) (a:Act) (l:List (Nat × Value)):Prop where
 size:a.tmps.size=n
 defers:a.defers=ds
 look:∀ t v,Pl.look l t=some v→a.tmps[t]?=some v
theorem Ag.put {n:Nat} {ds:List Deferred} {a:Act} {l:List (Nat × Value)} (h:Ag n ds a l) {d:Nat} (hd:d<n) (v:Value):Ag n ds (a.put (some d) v) ((d,v)::l) where
 size:=by show (a.tmps.setIfInBounds d v).size=n;rw [Array.size_setIfInBounds];exact h.size
 defers:=h.defers
 look t u hu:=by
  show (a.tmps.setIfInBounds d v)[t]?=some u
  unfold Pl.look at hu
  cases hb:Nat.beq d t with
  | true =>
   rw [hb] at hu
   obtain rfl:d=t:=Nat.eq_of_beq_eq_true hb
   rw [Array.getElem?_setIfInBounds_self_of_lt (by rw [h.size];exact hd)]
   exact hu
  | false =>
   rw [hb] at hu
   rw [Array.getElem?_setIfInBounds_ne (Nat.ne_of_beq_eq_false hb)]
   exact h.look t u hu
theorem Ag.cons {n:Nat} {ds:List Deferred} {a:Act} {l:List (Nat × Value)} (h:Ag n ds a l):Cons a.eval l where
 tmp t v hv:=by
  show a.tmps.getD t undef=v
  rw [Array.getD_eq_getD_getElem?,h.look t v hv];rfl
 const _:=rfl
 global _:=rfl
 func _:=rfl
theorem Ag.less {n:Nat} {ds:List Deferred} {a:Act} {l l':List (Nat × Value)} (h:Ag n ds a l) (hl:∀ t v,Pl.look l' t=some v→Pl.look l t=some v):Ag n ds a l':=⟨h.size,h.defers,fun t v hv=>h.look t v (hl t v hv)⟩
def nth:List Oper→Nat→Option Oper
 | [],_=>none
 | o::_,0=>some o
 | _::l,n+1=>nth l n
theorem sV:∀ (l:List Oper) (i:Nat),nth l i=l[i]?
 | [],_=>by simp [nth]
 | _::_,0=>by simp [nth]
 | _::l,n+1=>by simp only [nth,sV l n,List.getElem?_cons_succ]
def gd (L:List Oper) (l:List (Nat × Value)):Option (Nat × Bool)→Option Bool
 | none=>some true
 | some (j,b)=>match nth L j with
  | none=>none
  | some oj=>match oj.dst with
   | none=>none
   | some d=>match look l d with
    | some (.bool c)=>some (c==b)
    | some (.tuple _)=>some false
    | _=>none
theorem nL {L:List Oper} {n:Nat} {ds:List Deferred} {a:Act} {l:List (Nat × Value)} (hl:Ag n ds a l) {o:Oper} {b:Bool} (h:gd L l o.guard=some b):Region.wanted o (yielded L.toArray a.tmps)=b:=by
 unfold Region.wanted
 cases hg:o.guard with
 | none=>rw [hg] at h;exact Option.some.inj h
 | some g =>
  obtain ⟨j,c⟩:=g
  rw [hg] at h
  unfold gd at h
  dsimp only at h
  show (yielded L.toArray a.tmps j==some c)=b
  unfold yielded
  rw [sV] at h
  rw [List.getElem?_toArray]
  cases ho:L[j]? with
  | none=>rw [ho] at h;cases h
  | some oj =>
   rw [ho] at h
   cases hd:oj.dst with
   | none=>simp only [hd] at h;cases h
   | some d =>
    simp only [hd] at h
    cases hk:look l d with
    | none=>rw [hk] at h;cases h
    | some v =>
     rw [hk] at h
     simp only [Option.bind_some,hd,hl.look d v hk]
     cases v<;>first | (cases h;done) | (cases h;rfl)
def Cz (n:Nat):List Oper→Bool
 | []=>true
 | o::l=>(match o.dst with
  | some d=>Nat.blt d n
  | none=>true)&&Cz n l
theorem lT {n:Nat}:∀ {L:List Oper},Cz n L=true→∀ i o d,nth L i=some o→o.dst=some d→d<n
 | [],_,i,o,d,h,_=>by cases h
 | x::L,hk,i,o,d,h,hd=>by
  rw [Cz,Bool.and_eq_true] at hk
  cases i with
  | zero =>
   obtain rfl:x=o:=Option.some.inj h
   have h1:=hk.1
   rw [hd] at h1
   exact Nat.lt_of_lt_of_le (Nat.lt_succ_self d) (Nat.le_of_ble_eq_true h1)
  | succ i=>exact lT hk.2 i o d h hd
section
variable {P:Program} {L:List Oper} {S:World→Prop} {K:List (Nat × Value)→World→Prop} {Q:Exit→Act→World→Prop} {n f:Nat} {ds:List Deferred}
def gM (P:Program) (L:List Oper) (S:World→Prop) (K:List (Nat × Value)→World→Prop):List (Bool × Nat × Nat)→List (Nat × Value)→World→Prop
 | [],l,w=>K l w
 | (k,i,_)::r,l,w=>∃ o,nth L i=some o ∧
  ((∃ d v,k=true∧o.dst=some d∧gd L l o.guard=some true∧(∀ ρ,Cons ρ l→∀ X,S X→(execOp ρ o).run P X = .ok (.value v) X)∧gM P L S K r ((d,v)::l) w)
  ∨ (∃ d,o.dst=some d∧gd L l o.guard=some false∧gM P L S K r ((d,undef)::l) w)
  ∨ (∃ d f vs,k=false∧o.dst=some d∧gd L l o.guard=some true∧(∀ ρ,Cons ρ l→(execOp ρ o).run P w = .ok (.enter f vs) w) ∧
   Calls P f vs w (fun e w'=>∃ v,e = .returned v∧S w'∧gM P L S K r ((d,v)::l) w'))
  ∨ (∃ d v w',k=false∧o.dst=some d∧gd L l o.guard=some true∧(∀ ρ,Cons ρ l→(execOp ρ o).run P w = .ok (.value v) w')∧S w'∧gM P L S K r ((d,v)::l) w')
  ∨ (∃ w',k=false∧o.dst=none∧gd L l o.guard=some true∧(∀ ρ,Cons ρ l→(execOp ρ o).run P w = .ok .skip w')∧S w'∧gM P L S K r l w'))
def G (P:Program) (L:List Oper) (S:World→Prop) (Q:Exit→Act→World→Prop) (n:Nat) (ds:List Deferred) (f M:Nat) (l:List (Nat × Value)) (w:World):Prop :=
 ∀ a listed,Ag n ds a l→QR L.toArray.size M listed→S w→wpAnyH P .any L.toArray Q S f listed a w
theorem Aj {k:Bool} {i m:Nat} {l:List (Nat × Value)} {w:World} {a:Act} {o:Oper} {R:Act→World→Prop} (hd:∀ d,o.dst=some d→d<n) (ho:nth L i=some o) (ha:Ag n ds a l) (hS:S w)
  (h:gM P L S K ((false,i,m)::[]) l w) (hR:∀ a l w,Ag n ds a l→S w→K l w→R a w):wpOp P L.toArray Q i (fun a' w'=>S w'∧R a' w') a w:=by
 obtain ⟨o',ho',h⟩:=h
 obtain rfl:o=o':=Option.some.inj (ho.symm.trans ho')
 have hoi:L.toArray[i]?=some o:=by rw [List.getElem?_toArray,← sV];exact ho
 unfold wpOp
 simp only [hoi]
 rcases h with ⟨d,v,h1,_⟩ | ⟨d,hdd,hg,h⟩ | ⟨d,f,vs,h1,hdd,hg,hx,h⟩ | ⟨d,v,w',h1,hdd,hg,hx,hS',h⟩ | ⟨w',h1,hdd,hg,hx,hS',h⟩
 · cases h1
 · rw [if_neg (by rw [nL ha hg];exact Bool.false_ne_true),hdd]
   exact ⟨hS,hR _ _ _ (ha.put (hd d hdd) _) hS h⟩
 · rw [if_pos (nL ha hg)]
   refine .inl ?_
   unfold Oper.wp
   rw [hx _ ha.cons,Oper.upon_enter]
   refine Calls.mono h fun e w' he=>?_
   obtain ⟨v,rfl,hS',h⟩:=he
   rw [hdd]
   exact ⟨hS',hR _ _ _ (ha.put (hd d hdd) _) hS' h⟩
 · rw [if_pos (nL ha hg)]
   refine .inl ?_
   unfold Oper.wp
   rw [hx _ ha.cons,Oper.upon_value,hdd]
   exact ⟨hS',hR _ _ _ (ha.put (hd d hdd) _) hS' h⟩
 · rw [if_pos (nL ha hg)]
   refine .inl ?_
   unfold Oper.wp
   rw [hx _ ha.cons,Oper.upon_skip,hdd]
   exact ⟨hS',hR _ _ _ ha hS' h⟩
theorem MG {k:Bool} {i m:Nat} {r:List (Bool × Nat × Nat)} {l:List (Nat × Value)} {w:World} (h:gM P L S K ((k,i,m)::r) l w):gM P L S (gM P L S K r) ((k,i,m)::[]) l w:=h
theorem QV (hs:Region.noSelect L.toArray=true) (hQ:∀ c (d:Option Tmp) v a w,Q (.panic c) (a.put d v) w→Q (.panic c) a w) (hd:∀ i o d,nth L i=some o→o.dst=some d→d<n) {e:Nat} :
  ∀ (r:List (Bool × Nat × Nat)) (M:Nat) (l:List (Nat × Value)) (w:World),Cx (tabs L.toArray) e r M=true→gM P L S (G P L S Q n ds f e) r l w→G P L S Q n ds (r.length+f) M l w
 | [],M,l,w,hp,h=>by
  obtain rfl:M=e:=(beq_iff _ _).1 hp
  rw [List.length_nil,Nat.zero_add]
  exact h
 | (k,i,m)::r,M,l,w,hp,h=>by
  intro a listed ha hL hS
  rw [Cx,Bool.and_eq_true,Bool.and_eq_true] at hp
  obtain ⟨⟨hM,hp1⟩,hp2⟩:=hp
  obtain rfl:M=m:=(beq_iff _ _).1 hM
  cases ht:(tabs L.toArray)[i]? with
  | none=>rw [ht] at hp1;cases hp1
  | some t =>
   obtain ⟨o,ho,rfl⟩:=Iz ht
   rw [ht] at hp1
   have hoi:nth L i=some o:=by rw [sV,← List.getElem?_toArray];exact ho
   have hlt:i<L.toArray.size:=(Array.getElem?_eq_some_iff.1 ho).1
   simp only [Bool.and_eq_true,Bool.not_eq_true'] at hp1
   obtain ⟨⟨hun,hA⟩,hk⟩:=hp1
   rw [iZ] at hun
   have hin:i∈Region.ready .any L.toArray listed:=(kS (n:=0) hL).2 ⟨o,ho,hun,hA⟩
   have hL':=hL.put hlt
   have ih:∀ a l w,Ag n ds a l→S w→gM P L S (G P L S Q n ds f e) r l w→wpAnyH P .any L.toArray Q S (r.length+f) (listed.setIfInBounds i true) a w:=fun a l w ha hS h=>QV hs hQ hd r _ l w hp2 h a _ ha hL' hS
   rw [List.length_cons,show r.length+1+f=(r.length+f)+1 from by omega]
   cases k with
   | true =>
    have hfree:∀ j oj,L.toArray[j]?=some oj→j≠i→listed.getD j true=false→(∀ e∈oj.after,Region.binds .any e=true→e.on≠i)→o.apart L.toArray oj=true:=by
     intro j oj hj hne hl hno
     have hjl:j<L.toArray.size:=(Array.getElem?_eq_some_iff.1 hj).1
     have E5:(row L.toArray oj).A.testBit i=false:=by
      cases hb:(row L.toArray oj).A.testBit i
      · rfl
      · obtain ⟨e,he,hbe,hon⟩:=QS.1 hb
        exact absurd hon (hno e he hbe)
     obtain ⟨h1,h2⟩:=zu (tabs L.toArray) 0 hk j _ (xC hj) (by rw [Nat.zero_add];exact hne) (by rw [Nat.zero_add,← hL.t hjl];exact hl) E5
     exact QT h1 h2
    have go:∀ v,YieldsIf P L.toArray S o v a→wpAnyH P .any L.toArray Q S (r.length+f) (listed.setIfInBounds i true) (a.put o.dst v) w→wpAnyH P .any L.toArray Q S ((r.length+f)+1) listed a w:=fun v hy hh =>
     wpAnyH_first (v:=v) ho (Region.noSelect_spec hs) (fun c a w hq=>hQ c _ _ a w hq) (r.length+f) listed a w hfree hin hy hS hh
    obtain ⟨o',ho',h⟩:=h
    obtain rfl:o=o':=Option.some.inj (hoi.symm.trans ho')
    rcases h with ⟨d,v,h1,hdd,hg,hy,h⟩ | ⟨d,hdd,hg,h⟩ | ⟨d,f',vs,h1,_⟩ | ⟨d,v,w',h1,_⟩ | ⟨w',h1,_⟩
    · exact go v (.inl ⟨nL ha hg,fun X hX=>hy _ ha.cons X hX⟩) (by rw [hdd];exact ih _ _ w (ha.put (hd i o d hoi hdd) v) hS h)
    · exact go undef (.inr ⟨nL ha hg,rfl⟩) (by rw [hdd];exact ih _ _ w (ha.put (hd i o d hoi hdd) undef) hS h)
    · cases h1
    · cases h1
    · cases h1
   | false =>
    refine ⟨fun h0=>(by rw [h0] at hin;cases hin),fun j hj=>?_⟩
    have hji:j=i:=by
     obtain ⟨oj,hoj,h1,h2⟩:=(kS (n:=0) hL).1 hj
     refine Classical.byContradiction fun hne=>?_
     have:=zw (tabs L.toArray) 0 hk j _ (xC hoj) (by rw [Nat.zero_add];exact hne) (by rw [Nat.zero_add];exact h1)
     rw [this] at h2;cases h2
    subst hji
    exact Aj (k:=false) (m:=M) (hd j o · hoi) hoi ha hS (MG h) (fun a l w ha hS h=>ih a l w ha hS h)
def KD (P:Program) (L:List Oper) (S:World→Prop) (Q:Exit→Act→World→Prop) (n:Nat) (ds:List Deferred) (f M:Nat) (l:List (Nat × Value)) (w:World):List Nat→Prop
 | []=>True
 | i::rs=>gM P L S (G P L S Q n ds f (Nat.lor M (Nat.shiftLeft 1 i))) ((false,i,M)::[]) l w∧KD P L S Q n ds f M l w rs
theorem IA {M:Nat} {l:List (Nat × Value)} {w:World}:∀ {rs:List Nat},KD P L S Q n ds f M l w rs→∀ i∈rs,gM P L S (G P L S Q n ds f (Nat.lor M (Nat.shiftLeft 1 i))) ((false,i,M)::[]) l w
 | [],_,i,hi=>by cases hi
 | j::rs,h,i,hi=>by
  rcases List.mem_cons.1 hi with rfl | hi
  · exact h.1
  · exact IA h.2 i hi
theorem Z5 (hd:∀ i o d,nth L i=some o→o.dst=some d→d<n) {M:Nat} {l:List (Nat × Value)} {w:World} (rs:List Nat) (hr:QU (tabs L.toArray) M rs=true) (h:KD P L S Q n ds f M l w rs):G P L S Q n ds (f+1) M l w:=by
 intro a listed ha hL hS
 unfold QU at hr
 rw [Bool.and_eq_true] at hr
 refine ⟨fun h0=>?_,fun j hj=>?_⟩
 · cases rs with
   | nil=>cases hr.2
   | cons i rs =>
    have h2:=hr.2
    simp only [MF] at h2
    cases ht:(tabs L.toArray)[i]? with
    | none=>rw [ht] at h2;cases h2
    | some t =>
     obtain ⟨o,ho,rfl⟩:=Iz ht
     rw [ht] at h2
     simp only [Bool.and_eq_true,Bool.not_eq_true'] at h2
     rw [iZ] at h2
     have hin:i∈Region.ready .any L.toArray listed:=(kS (n:=0) hL).2 ⟨o,ho,h2.1,h2.2⟩
     rw [h0] at hin;cases hin
 · obtain ⟨o,ho,h1,h2⟩:=(kS (n:=0) hL).1 hj
   have hoi:nth L j=some o:=by rw [sV,← List.getElem?_toArray];exact ho
   have hlt:j<L.toArray.size:=(Array.getElem?_eq_some_iff.1 ho).1
   have hm:=Cy (tabs L.toArray) 0 hr.1 j _ (xC ho) (by rw [Nat.zero_add];exact h1) h2
   rw [Nat.zero_add] at hm
   exact Aj (k:=false) (m:=M) (hd j o · hoi) hoi ha hS (IA h j hm) (fun a l w ha hS h=>h a _ ha (hL.put hlt) hS)
theorem Z6 {l:List (Nat × Value)} {w:World} {M:Nat} (hM:Nat.beq M (Nat.sub (2^L.toArray.size) 1)=true) (h:S w→∀ a,Ag n ds a l→Q .normal a w):G P L S Q n ds f M l w:=by
 intro a listed ha hL hS
 obtain rfl:M=2^L.toArray.size-1:=(beq_iff _ _).1 hM
 exact wpAnyH_done (KC hL) (h hS a ha) f
def idp:Nat→List Oper→List (Bool × Nat × Nat)
 | _,[]=>[]
 | i,_::l=>(false,i,0)::idp (i+1) l
theorem QW {L:List Oper} {o:Oper}:∀ {pre rest:List Oper},L=pre++o::rest→nth L pre.length=some o:=fun h=>by
 rw [sV,h];simp
theorem xD (hd:∀ i o d,nth L i=some o→o.dst=some d→d<n) :
  ∀ (rest pre:List Oper) (l:List (Nat × Value)) (w:World) (a:Act),L=pre++rest→Ag n ds a l→S w→gM P L S (fun l w=>∀ a,Ag n ds a l→Q .normal a w) (idp pre.length rest) l w→wpList P L.toArray Q rest a w
 | [],pre,l,w,a,_,ha,_,h=>h a ha
 | o::rest,pre,l,w,a,hL,ha,hS,h=>by
  have hoi:=QW hL
  have hL':L=(pre++[o])++rest:=by rw [hL];simp
  have hlen:(pre++[o]).length=pre.length+1:=by simp
  have h1:=Aj (k:=false) (m:=0) (Q:=Q) (R:=fun a w=>wpList P L.toArray Q rest a w) (hd _ o · hoi) hoi ha hS (MG h)
   (fun a l w ha hS h=>xD hd rest (pre++[o]) l w a hL' ha hS (by rw [hlen];exact h))
  have hop:L.toArray[pre.length]?=some o:=by rw [List.getElem?_toArray,← sV];exact hoi
  unfold wpOp at h1
  rw [hop] at h1
  dsimp only at h1
  unfold wpList
  by_cases hw:Region.wanted o (yielded L.toArray a.tmps)=true
  · rw [if_pos hw] at h1 ⊢
    rcases h1 with h1 | h1
    · exact .inl (Oper.wp_mono (fun a w h=>h.2) h1)
    · exact .inr h1
  · rw [if_neg hw] at h1 ⊢
    exact h1.2
end
end Go.Proofs.YtdpmbgomcjnohaaGreatDoor.Pl
/- A function without loops, walked with its frame as a list of what is known. -/
namespace Go.Proofs.YtdpmbgomcjnohaaGreatDoor.Pl
open Go
set_option linter.all false
set_option maxRecDepth 100000
set_option maxHeartbeats 8000000
def Ks (P:Program) (Q:Exit→Act→World→Prop):List Code→Exit→Act→World→Prop
 | []=>Q
 | c::cs=>Exit.then (c.wp P (Ks P Q cs)) (Ks P Q cs)
def V (P:Program) (Q:Exit→Act→World→Prop) (n:Nat) (ds:List Deferred) (cs:List Code) (l:List (Nat × Value)) (w:World):Prop :=
 ∀ a,Ag n ds a l→Ks P Q cs .normal a w
section
variable {P:Program} {Q:Exit→Act→World→Prop} {n:Nat} {ds:List Deferred} {cs:List Code} {l:List (Nat × Value)} {w:World} {x y:Code}
theorem KE:∀ {cs:List Code} {a:Act} {w:World},Q .ret a w→Ks P Q cs .ret a w
 | [],_,_,h=>h
 | _::cs,_,_,h=>KE (cs:=cs) h
theorem sW:∀ {cs:List Code} {c:_} {a:Act} {w:World},Ks P Q cs (.panic c) a w↔Q (.panic c) a w
 | [],_,_,_=>Iff.rfl
 | _::cs,_,_,_=>sW (cs:=cs)
theorem af (h:V P Q n ds (x::y::cs) l w):V P Q n ds (.seq x y::cs) l w:=fun a ha=>wp_seq (h a ha)
theorem fG (h:V P Q n ds cs l w):V P Q n ds (.skip::cs) l w:=fun a ha=>wp_skip (h a ha)
theorem fP {c:Operand} (hc:dA l c=some (.bool true)) (h:V P Q n ds (x::cs) l w):V P Q n ds (.cond c x y::cs) l w:=fun a ha=>wp_cond_true (ha.cons.dA hc) (h a ha)
theorem dH {c:Operand} (hc:dA l c=some (.bool false)) (h:V P Q n ds (y::cs) l w):V P Q n ds (.cond c x y::cs) l w:=fun a ha=>wp_cond_false (ha.cons.dA hc) (h a ha)
theorem Ef (h:∀ a,Ag n ds a l→Q .ret a w):V P Q n ds (.ret::cs) l w:=fun a ha=>wp_ret (KE (h a ha))
theorem JR {l':List (Nat × Value)} (hl:∀ t v,look l' t=some v→look l t=some v) (h:V P Q n ds cs l' w):V P Q n ds cs l w:=fun a ha=>h a (ha.less hl)
def KF (l:List (Nat × Value)):List (Nat × Value)→Prop
 | []=>True
 | (d,v)::l'=>look l d=some v∧KF l l'
theorem yO {l:List (Nat × Value)}:∀ {l':List (Nat × Value)},KF l l'→∀ t v,look l' t=some v→look l t=some v
 | [],_,t,v,h=>by cases h
 | (d,u)::l',hs,t,v,h=>by
  unfold look at h
  cases hb:Nat.beq d t with
  | true =>
   rw [hb] at h
   obtain rfl:d=t:=Nat.eq_of_beq_eq_true hb
   cases h
   exact hs.1
  | false =>
   rw [hb] at h
   exact yO hs.2 t v h
theorem lI (l':List (Nat × Value)) (hl:KF l l') (h:V P Q n ds cs l' w):V P Q n ds cs l w:=JR (yO hl) h
theorem dW:KF l []:=trivial
theorem aC {d:Nat} {v:Value} {l':List (Nat × Value)} (h:look l d=some v) (hs:KF l l'):KF l ((d,v)::l'):=⟨h,hs⟩
theorem jU {L:List Oper} {S:World→Prop} {f M:Nat}:KD P L S Q n ds f M l w []:=trivial
theorem dO {L:List Oper} {S:World→Prop} {f M i:Nat} {rs:List Nat} (h:gM P L S (G P L S Q n ds f (Nat.lor M (Nat.shiftLeft 1 i))) ((false,i,M)::[]) l w) (hs:KD P L S Q n ds f M l w rs):KD P L S Q n ds f M l w (i::rs):=⟨h,hs⟩
theorem qj {L:List Oper} {S:World→Prop} {K K':List (Nat × Value)→World→Prop} (hK:∀ l w,K l w→K' l w) :
  ∀ (r:List (Bool × Nat × Nat)) (l:List (Nat × Value)) (w:World),gM P L S K r l w→gM P L S K' r l w
 | [],l,w,h=>hK l w h
 | (k,i,m)::r,l,w,h=>by
  obtain ⟨o,ho,h⟩:=h
  refine ⟨o,ho,?_⟩
  rcases h with ⟨d,v,h1,hdd,hg,hy,h⟩ | ⟨d,hdd,hg,h⟩ | ⟨d,f,vs,h1,hdd,hg,hx,h⟩ | ⟨d,v,w',h1,hdd,hg,hx,hS,h⟩ | ⟨w',h1,hdd,hg,hx,hS,h⟩
  · exact .inl ⟨d,v,h1,hdd,hg,hy,qj hK r _ w h⟩
  · exact .inr (.inl ⟨d,hdd,hg,qj hK r _ w h⟩)
  · exact .inr (.inr (.inl ⟨d,f,vs,h1,hdd,hg,hx,Calls.mono h fun e w' ⟨v,he,hS,hh⟩=>⟨v,he,hS,qj hK r _ w' hh⟩⟩))
  · exact .inr (.inr (.inr (.inl ⟨d,v,w',h1,hdd,hg,hx,hS,qj hK r _ w' h⟩)))
  · exact .inr (.inr (.inr (.inr ⟨w',h1,hdd,hg,hx,hS,qj hK r _ w' h⟩)))
theorem Kj {L:List Oper} {S:World→Prop} {f M:Nat} (hM:Nat.beq M (Nat.sub (2^L.toArray.size) 1)=true) (h:V P Q n ds cs l w):G P L S (Ks P Q cs) n ds f M l w:=Z6 hM fun _=>h
theorem uj {id:Nat} {L:List Oper} {S:World→Prop} (hm:P.follows .mixedOrders=true) (hS:S w.drew) (h:S w.drew→G P L S (Ks P Q cs) n ds L.toArray.size 0 l w.drew):V P Q n ds (.region id L.toArray true::cs) l w :=
 fun a ha=>wp_region_held hm (h hS a _ ha (QR.new _) hS)
def QX (n:Nat) (L:List Oper) (r:List (Bool × Nat × Nat)):Bool :=
 Region.noSelect L.toArray&&(Cx (tabs L.toArray) (Nat.sub (2^L.toArray.size) 1) r 0&&(Nat.beq r.length L.toArray.size&&Cz n L))
theorem fU {id:Nat} {L:List Oper} {S:World→Prop} (r:List (Bool × Nat × Nat)) (hm:P.follows .mixedOrders=true)
  (hQ:∀ c (d:Option Tmp) v a w,Q (.panic c) (a.put d v) w→Q (.panic c) a w) (hk:QX n L r=true) (hS:S w.drew)
  (h:S w.drew→gM P L S (V P Q n ds cs) r l w.drew):V P Q n ds (.region id L.toArray true::cs) l w:=by
 rw [QX,Bool.and_eq_true,Bool.and_eq_true,Bool.and_eq_true] at hk
 refine uj hm hS fun hS=>?_
 have:=QV (f:=0) hk.1 (fun c d v a w hq=>sW.2 (hQ c d v a w (sW.1 hq))) (lT hk.2.2.2) r 0 l w.drew hk.2.1 (qj (fun l w hx=>Kj (P:=P) (Q:=Q) (cs:=cs) (by rw [beq_iff]) hx) r l w.drew (h hS))
 rw [Nat.add_zero,(beq_iff _ _).1 hk.2.2.1] at this
 exact this
theorem ah {id:Nat} {L:List Oper} (hk:Cz n L=true)
  (h:gM P L (fun _=>True) (V P Q n ds cs) (idp 0 L) l w):V P Q n ds (.region id L.toArray false::cs) l w:=fun a ha =>
 wp_region_list (xD (S:=fun _=>True) (Q:=Ks P Q cs) (lT hk) L [] l w a rfl ha trivial h)
def CB (n:Nat) (L:List Oper):Bool:=Region.noSelect L.toArray&&Cz n L
theorem jk {L:List Oper} {S:World→Prop} {M:Nat} (r:List (Bool × Nat × Nat)) (e f:Nat) {g:Nat} (hQ:∀ c (d:Option Tmp) v a w,Q (.panic c) (a.put d v) w→Q (.panic c) a w) (hk:CB n L=true) (hg:Nat.beq (Nat.add r.length f) g=true)
  (hp:Cx (tabs L.toArray) e r M=true) (h:gM P L S (G P L S (Ks P Q cs) n ds f e) r l w):G P L S (Ks P Q cs) n ds g M l w:=by
 rw [CB,Bool.and_eq_true] at hk
 have:=QV (f:=f) hk.1 (fun c d v a w hq=>sW.2 (hQ c d v a w (sW.1 hq))) (lT hk.2) r M l w hp h
 rwa [show r.length+f=g from (beq_iff _ _).1 hg] at this
theorem uP {L:List Oper} {S:World→Prop} {M:Nat} (rs:List Nat) (f:Nat) {g:Nat} (hk:CB n L=true) (hg:Nat.beq (Nat.succ f) g=true) (hr:QU (tabs L.toArray) M rs=true) (h:KD P L S (Ks P Q cs) n ds f M l w rs):G P L S (Ks P Q cs) n ds g M l w:=by
 rw [CB,Bool.and_eq_true] at hk
 have:=Z5 (lT hk.2) rs hr h
 rwa [show f+1=g from (beq_iff _ _).1 hg] at this
theorem nu {id:Nat} {b:Code} (h:V P (Exit.inBlock id (Ks P Q cs)) n ds [b] l w):V P Q n ds (.block id b::cs) l w:=fun a ha=>wp_block (h a ha)
theorem oh {id:Nat} (h:V P Q n ds cs l w):V P (Exit.inBlock id (Ks P Q cs)) n ds [] l w:=fun a ha=>h a ha
theorem Br {id:Nat} {cs':List Code} {N:Act→World→Prop} (h:V P Q n ds cs l w):V P (Exit.then N (Ks P (Exit.inBlock id (Ks P Q cs)) [])) n ds (.exit id::cs') l w:=fun a ha=>wp_exit (by
 have e:∀ (Q':Exit→Act→World→Prop) (cs':List Code),Q' (.exit id) a w→Ks P Q' cs' (.exit id) a w:=fun Q' cs'=>by
  induction cs' with
  | nil=>exact fun h=>h
  | cons c cs' ih=>exact fun h=>ih h
 refine e _ _ ?_
 show (if id=id then Ks P Q cs .normal a w else _)
 rw [if_pos rfl]
 exact h a ha)
theorem least {p:Nat→Prop} (h:∃ k,p k):∃ k,p k∧∀ j,p j→k≤j:=by
 obtain ⟨k,hk⟩:=h
 induction k using Nat.strongRecOn with
 | _ k ih =>
  by_cases hj:∃ j,j<k∧p j
  · obtain ⟨j,h1,h2⟩:=hj;exact ih j h1 h2
  · exact ⟨k,hk,fun j hj'=>Nat.le_of_not_lt fun hlt=>hj ⟨j,hlt,hj'⟩⟩
open Classical in
theorem ym {c:Code} (I:Nat→List (Nat × Value)→World→Prop) (k:Nat) (h0:I k l w)
  (hs:∀ k l w,I k l w→V P (Exit.then (fun a' w'=>∃ k' l',k'<k∧Ag n ds a' l'∧I k' l' w') (Ks P Q cs)) n ds [c] l w):V P Q n ds (.loop c::cs) l w:=fun a ha=>by
 have key:∀ (a:Act) (w:World),(∃ k,∃ l,Ag n ds a l∧I k l w)→∃ k,(∃ l,Ag n ds a l∧I k l w)∧∀ j,(∃ l,Ag n ds a l∧I j l w)→k≤j:=fun a w h=>least h
 refine wp_loop (fun a w=>∃ k,∃ l,Ag n ds a l∧I k l w) (fun a w=>if h:∃ k,∃ l,Ag n ds a l∧I k l w then (key a w h).choose else 0) ⟨k,l,ha,h0⟩ fun a w h=>?_
 obtain ⟨⟨l,ha,hI⟩,hmin⟩:=(key a w h).choose_spec
 refine Code.wp_mono ?_ (hs _ l w hI a ha)
 intro e a' w' hq
 cases e with
 | normal =>
  obtain ⟨k',l',hlt,ha',hI'⟩:=hq
  have h':∃ k,∃ l,Ag n ds a' l∧I k l w':=⟨k',l',ha',hI'⟩
  refine ⟨h',?_⟩
  show (if h:∃ k,∃ l,Ag n ds a' l∧I k l w' then (key a' w' h).choose else 0)<(if h:∃ k,∃ l,Ag n ds a l∧I k l w then (key a w h).choose else 0)
  rw [dif_pos h',dif_pos h]
  exact Nat.lt_of_le_of_lt ((key a' w' h').choose_spec.2 k' ⟨l',ha',hI'⟩) hlt
 | _=>exact hq
theorem zY {I:Nat→List (Nat × Value)→World→Prop} {Q':Exit→Act→World→Prop} {k k':Nat} (l':List (Nat × Value)) (hs:KF l l') (hk:k'<k) (hI:I k' l' w) :
 V P (Exit.then (fun a' w'=>∃ k' l',k'<k∧Ag n ds a' l'∧I k' l' w') Q') n ds [] l w:=fun a ha=>⟨k',l',hk,ha.less (yO hs),hI⟩
def QY:Nat→List Value→List (Nat × Value)
 | _,[]=>[]
 | i,v::vs=>(i,v)::QY (i+1) vs
theorem Em {t:Nat} {v:Value}:∀ {vs:List Value} {i:Nat},look (QY i vs) t=some v→i≤t∧vs[t-i]?=some v
 | [],i,h=>by cases h
 | u::vs,i,h=>by
  unfold QY look at h
  cases hb:Nat.beq i t with
  | true =>
   rw [hb] at h
   obtain rfl:i=t:=Nat.eq_of_beq_eq_true hb
   rw [Nat.sub_self]
   exact ⟨Nat.le_refl _,h⟩
  | false =>
   rw [hb] at h
   obtain ⟨h1,h2⟩:=Em h
   refine ⟨by omega,?_⟩
   rw [show t-i=(t-(i+1))+1 from by omega]
   exact h2
theorem aN {f:FuncId} {fn:Func} {c:Code} {vs:List Value} {R:Ending→World→Prop} (hf:P.funcs[f]?=some fn) (hb:fn.body=some c) (hn:Nat.beq fn.ntmps n=true) (hle:Nat.ble vs.length n=true)
  (h:V P (bodyPost P fn R) n [] [c] (QY 0 vs) w):Calls P f vs.toArray w R:=by
 have hn':vs.length≤n:=Nat.le_of_ble_eq_true hle
 have hn2:fn.ntmps=n:=(beq_iff _ _).1 hn
 refine calls_of_wp hf hb (h _ ⟨?_,rfl,fun t v ht=>?_⟩)
 · rw [hn2];simp;omega
 · obtain ⟨_,hj⟩:=Em ht
   rw [Nat.sub_zero] at hj
   have hlt:t<vs.length:=(List.getElem?_eq_some_iff.1 hj).1
   show (vs.toArray++Array.replicate (fn.ntmps-vs.toArray.size) undef)[t]?=some v
   rw [Array.getElem?_append_left (by simpa using hlt)]
   simpa using hj
theorem aZ {fn:Func} {R:Ending→World→Prop} {t:Tmp} {v:Value} (hr:fn.results=#[.tmp t]) (hv:look l t=some v) (h:R (.returned v) w) :
  V P (bodyPost P fn R) n [] (.ret::cs) l w:=Ef fun a ha=>by
 refine ⟨ha.defers,v,?_,h⟩
 unfold results
 rw [hr]
 have:a.tmps.getD t undef=v:=by rw [Array.getD_eq_getD_getElem?,ha.look t v hv];rfl
 simp only [List.mapM_toArray,List.mapM_cons,List.mapM_nil,this]
 rfl
theorem aR {fn:Func} {R:Ending→World→Prop} (c:_) (d:Option Tmp) (v:Value) (a:Act) (w:World) (h:bodyPost P fn R (.panic c) (a.put d v) w):bodyPost P fn R (.panic c) a w:=by
 cases d<;>exact h
end
section
variable {P:Program} {L:List Oper} {S:World→Prop} {K:List (Nat × Value)→World→Prop} {k:Bool} {i m d:Nat} {o:Oper} {r:List (Bool × Nat × Nat)} {l:List (Nat × Value)} {w w':World} {v:Value}
theorem Fv (ho:nth L i=some o) (hd:o.dst=some d) (hg:gd L l o.guard=some false) (h:gM P L S K r ((d,undef)::l) w):gM P L S K ((k,i,m)::r) l w:=⟨o,ho,.inr (.inl ⟨d,hd,hg,h⟩)⟩
theorem dK (s:Sem Value) (X:World) (h:s.run P X = .ok v X):(do pure (Next.value (← s)):Sem Next).run P X = .ok (.value v) X:=by
 show (s >>= fun u=>pure (Next.value u)).run P X=_
 rw [Sem.run_bind,h];rfl
theorem Ia (s:Sem Value) {X X':World} (h:s.run P X = .ok v X'):(do pure (Next.value (← s)):Sem Next).run P X = .ok (.value v) X':=by
 show (s >>= fun u=>pure (Next.value u)).run P X=_
 rw [Sem.run_bind,h];rfl
theorem ay {f:FuncId} {xs:List Operand} {ats:Array TypeId} {vs:List Value} (ho:nth L i=some o) (hop:o.op = .call { callee:=.value (.func f),args:=xs.toArray,argTypes:=ats }) (hd:o.dst=some d)
  (hg:gd L l o.guard=some true) (hx:uH l xs=some vs) (hf:∀ (u:Array Value) X,(callFunc f u).run P X = .ok (.enter f u) X)
  (hc:Calls P f vs.toArray w (fun e w'=>∃ v,e = .returned v∧S w'∧gM P L S K r ((d,v)::l) w')):gM P L S K ((false,i,m)::r) l w :=
 ⟨o,ho,.inr (.inr (.inl ⟨d,f,vs.toArray,rfl,hd,hg,fun ρ hρ=>by
  unfold execOp
  rw [hop]
  show (resolve ρ _ _ >>= fun d=>invoke d.target d.args).run P w=_
  unfold resolve
  show (Deferred.ofValue (ρ (.func f)) (xs.toArray.map ρ) >>= fun d=>invoke d.target d.args).run P w=_
  rw [hρ.func]
  show (callFunc f ((#[]++xs.toArray.map ρ)++#[])).run P w=_
  have e:(#[]++xs.toArray.map ρ)++#[]=vs.toArray:=by rw [← hρ.uH hx];simp
  rw [e]
  exact hf _ w,hc⟩))⟩
theorem enters {f:FuncId} {fn:Func} {c:Code} (hf:P.funcs[f]?=some fn) (hname:(fn.name == "runtime.NumGoroutine")=false) (hb:fn.body=some c) (u:Array Value) (X:World):(callFunc f u).run P X = .ok (.enter f u) X:=by
 simp [callFunc,go_sem,hf,show ¬ fn.name = "runtime.NumGoroutine" from by simpa using hname,hb]
theorem lM (ho:nth L i=some o) (hd:o.dst=some d) (hg:gd L l o.guard=some true) (hx:∀ ρ,Cons ρ l→(execOp ρ o).run P w = .ok (.value v) w') (hS:S w')
 (h:gM P L S K r ((d,v)::l) w'):gM P L S K ((false,i,m)::r) l w:=⟨o,ho,.inr (.inr (.inr (.inl ⟨d,v,w',rfl,hd,hg,hx,hS,h⟩)))⟩
theorem QZ (ho:nth L i=some o) (hd:o.dst=none) (hg:gd L l o.guard=some true) (hx:∀ ρ,Cons ρ l→(execOp ρ o).run P w = .ok .skip w') (hS:S w')
 (h:gM P L S K r l w'):gM P L S K ((false,i,m)::r) l w:=⟨o,ho,.inr (.inr (.inr (.inr ⟨w',rfl,hd,hg,hx,hS,h⟩)))⟩
theorem Ux (ho:nth L i=some o) (hd:o.dst=some d) (hg:gd L l o.guard=some true) (hy:∀ ρ,Cons ρ l→∀ X,S X→(execOp ρ o).run P X = .ok (.value v) X)
 (h:gM P L S K r ((d,v)::l) w):gM P L S K ((true,i,m)::r) l w:=⟨o,ho,.inl ⟨d,v,rfl,hd,hg,hy,h⟩⟩
theorem iC (hS:S w) (ho:nth L i=some o) (hd:o.dst=some d) (hg:gd L l o.guard=some true) (hy:∀ ρ,Cons ρ l→∀ X,S X→(execOp ρ o).run P X = .ok (.value v) X)
  (h:gM P L S K r ((d,v)::l) w):gM P L S K ((k,i,m)::r) l w:=by
 cases k with
 | true=>exact Ux ho hd hg hy h
 | false=>exact lM ho hd hg (fun ρ hρ=>hy ρ hρ w hS) hS h
theorem oU {x:Operand} (hS:S w) (ho:nth L i=some o) (hop:o.op = .move x) (hd:o.dst=some d) (hg:gd L l o.guard=some true) (hx:dA l x=some v)
 (h:gM P L S K r ((d,v)::l) w):gM P L S K ((k,i,m)::r) l w:=iC hS ho hd hg (fun ρ hρ X _=>by unfold execOp;rw [hop];show Result.ok (Next.value (ρ x)) X=_;rw [hρ.dA hx]) h
theorem lU {x:Operand} (hS:S w) (ho:nth L i=some o) (hop:o.op = .assign x) (hd:o.dst=some d) (hg:gd L l o.guard=some true) (hx:dA l x=some v)
 (h:gM P L S K r ((d,v)::l) w):gM P L S K ((k,i,m)::r) l w:=iC hS ho hd hg (fun ρ hρ X _=>by unfold execOp;rw [hop];show Result.ok (Next.value (ρ x)) X=_;rw [hρ.dA hx]) h
theorem MC {x:Operand} {ty:TypeId} {p:Value} (hS:S w) (ho:nth L i=some o) (hop:o.op = .load ty x) (hd:o.dst=some d) (hg:gd L l o.guard=some true) (hx:dA l x=some p)
  (hr:∀ X,S X→(Instr.loadAt ty p).run P X = .ok v X) (h:gM P L S K r ((d,v)::l) w):gM P L S K ((k,i,m)::r) l w :=
 iC hS ho hd hg (fun ρ hρ X hX=>by unfold execOp;rw [hop];exact dK _ X (by rw [hρ.dA hx];exact hr X hX)) h
theorem Ir {x:Operand} {ty:TypeId} {p:Value} (hS:S w) (ho:nth L i=some o) (hop:o.op = .load ty x) (hd:o.dst=some d) (hg:gd L l o.guard=some true) (hx:dA l x=some p)
  (hr:(Instr.loadAt ty p).run P w = .ok v w) (h:gM P L S K r ((d,v)::l) w):gM P L S K ((false,i,m)::r) l w :=
 lM ho hd hg (fun ρ hρ=>by unfold execOp;rw [hop];exact dK _ w (by rw [hρ.dA hx];exact hr)) hS h
theorem aj (h:K l w):gM P L S K [] l w:=h
theorem QO {ty:TypeId} (ho:nth L i=some o) (hop:o.op = .alloc ty) (hd:o.dst=some d) (hg:gd L l o.guard=some true)
  (hr:(Instr.alloc ty true (.tuple #[])).run P w = .ok v w') (hS:S w') (h:gM P L S K r ((d,v)::l) w'):gM P L S K ((false,i,m)::r) l w :=
 lM ho hd hg (fun ρ hρ=>by
  unfold execOp;rw [hop]
  show (Instr.alloc ty true (.tuple #[]) >>= fun u=>pure (Next.value u)).run P w=_
  rw [Sem.run_bind,hr];rfl) hS h
theorem Iu {x y:Operand} {ty:TypeId} {p u:Value} (ho:nth L i=some o) (hop:o.op = .store ty x y) (hd:o.dst=none) (hg:gd L l o.guard=some true) (hx:dA l x=some p) (hy:dA l y=some u)
  (hr:(Instr.storeAt ty p u).run P w = .ok () w') (hS:S w') (h:gM P L S K r l w'):gM P L S K ((false,i,m)::r) l w :=
 QZ ho hd hg (fun ρ hρ=>by
  unfold execOp;rw [hop]
  show (Instr.storeAt ty (ρ x) (ρ y) >>= fun _=>pure Next.skip).run P w=_
  rw [hρ.dA hx,hρ.dA hy,Sem.run_bind,hr];rfl) hS h
theorem vS {x:Operand} {ix:Nat} {t:Array Value} (hS:S w) (ho:nth L i=some o) (hop:o.op = .extract x ix) (hd:o.dst=some d) (hg:gd L l o.guard=some true) (hx:dA l x=some (.tuple t)) (hv:t[ix]?=some v)
  (h:gM P L S K r ((d,v)::l) w):gM P L S K ((k,i,m)::r) l w :=
 iC hS ho hd hg (fun ρ hρ X hX=>by unfold execOp;rw [hop];exact dK _ X (by rw [hρ.dA hx];simp [Instr.extract,hv])) h
theorem qb {x:Operand} {op:UnOp} {ty:TypeId} {u:Value} (hS:S w) (ho:nth L i=some o) (hop:o.op = .unOp op ty x) (hd:o.dst=some d) (hg:gd L l o.guard=some true) (hx:dA l x=some u)
  (hr:∀ X,(Op.unary op u).run P X = .ok v X) (h:gM P L S K r ((d,v)::l) w):gM P L S K ((k,i,m)::r) l w :=
 iC hS ho hd hg (fun ρ hρ X _=>by unfold execOp;rw [hop];exact dK _ X (by rw [hρ.dA hx];exact hr X)) h
theorem Ky {x y:Operand} {op:BinOp} {tx ty:TypeId} {u u':Value} (hS:S w) (ho:nth L i=some o) (hop:o.op = .binOp op tx x y ty) (hd:o.dst=some d) (hg:gd L l o.guard=some true) (hx:dA l x=some u) (hy:dA l y=some u')
  (hr:∀ X,(do eqGuard op tx x y u u';binOp op tx u u':Sem Value).run P X = .ok v X) (h:gM P L S K r ((d,v)::l) w):gM P L S K ((k,i,m)::r) l w :=
 iC hS ho hd hg (fun ρ hρ X _=>by unfold execOp;rw [hop];exact dK _ X (by rw [hρ.dA hx,hρ.dA hy];exact hr X)) h
end
end Go.Proofs.YtdpmbgomcjnohaaGreatDoor.Pl
